/- Layer 7 (cap): the reference's Name, Parse and Members: they make lists, which nobody keeps. -/
import Derived.Test.YtpggdojclhdkjaaDoorCapH
namespace Go.Proofs.YtpggdojclhdkjaaDoor
open Go.RowKit

set_option maxHeartbeats 4000000 in
theorem rname_any (c : Int) (w : World) : Calls Tryd.prog 12 #[.int .i64 c] w fun e w' => e = .returned (.string (nameI c)) ∧ Below w.heap.size w w' := by
  by_cases h0 : c < 0
  · go_enter Tryd.func12, Tryd.ntmps12
    go_wp2
    go_ret
    exact ⟨ret_string (by rw [nameI, if_neg (by omega)]; rfl), (Below.refl _ _).alloc (Nat.le_refl _) _⟩
  · by_cases h1 : c < 12
    · have hcc : c = 0 ∨ c = 1 ∨ c = 2 ∨ c = 3 ∨ c = 4 ∨ c = 5 ∨ c = 6 ∨ c = 7 ∨ c = 8 ∨ c = 9 ∨ c = 10 ∨ c = 11 := by omega
      clear h0 h1
      rcases hcc with rfl | rfl | rfl | rfl | rfl | rfl | rfl | rfl | rfl | rfl | rfl | rfl
      all_goals
        go_enter Tryd.func12, Tryd.ntmps12
        go_wp2
        go_ret
        exact ⟨ret_string (by kernel_rfl), (Below.refl _ _).alloc (Nat.le_refl _) _⟩
    · have h2 : 12 ≤ c := by omega
      go_enter Tryd.func12, Tryd.ntmps12
      go_wp2
      go_ret
      exact ⟨ret_string (by rw [nameI, if_neg (by omega)]; rfl), (Below.refl _ _).alloc (Nat.le_refl _) _⟩

theorem nameI_succ (k : Nat) (hk : k < 11) : nameI ((k : Int) + 1) = nameS (k + 1) := by
  rw [nameI, if_pos (by omega)]
  rfl

set_option maxHeartbeats 1600000 in
theorem rparse_any (s : ByteArray) (w : World) : Calls Tryd.prog 10 #[.string s] w fun e w' => e = .returned (.tuple #[.int .i64 (parseI s), .int .i64 (parseE s)]) ∧ Below w.heap.size w w' := by
  go_enter Tryd.func10, Tryd.ntmps10
  go_wp2_with fail
  go_loopw [4] (fun i wr => ∃ k : Nat, k ≤ 11 ∧ Miss s (k + 1) ∧ i = .int .i64 (k + 1) ∧ Below w.heap.size w wr) (fun i _ => 12 - (intOf i).toNat)
  case atStart => exact ⟨0, by omega, miss_one s, rfl, Below.refl _ _⟩
  case round =>
    obtain ⟨k, hk, hm, rfl, hb⟩ := hrel
    by_cases hlt : k < 11
    · have hn := nameI_succ k hlt
      have HN := Lib.hid hn
      clear hn
      go_wp2_with (go_at_call 12; refine (rname_any _ _).mono ?_; rintro e w1 ⟨rfl, hb1⟩)
      · have h0 : ((nameI ((k : Int) + 1)).toList == s.toList) = true := by assumption
        have h := beq_iff_eq.1 h0
        have hb1 : Below wr.heap.size wr w1 := by assumption
        rw [HN.out] at h
        go_ret2
        exact ⟨ret_parse (by have := parse_hit (by omega) (by omega) h; simpa using this), hb.trans (hb1.mono hb.size)⟩
      · have h0 : ((nameI ((k : Int) + 1)).toList == s.toList) = false := by assumption
        have h := beq_eq_false_iff_ne.1 h0
        have hb1 : Below wr.heap.size wr w1 := by assumption
        rw [HN.out] at h
        go_roundw
        case rel => exact ⟨k + 1, by omega, miss_step hm h, by go_num, hb.trans (hb1.mono hb.size)⟩
        case measure => simp [intOf]; omega
    · have hk11 : k = 11 := by omega
      subst hk11
      go_wp2
      go_ret2
      exact ⟨ret_parse (parse_miss hm), hb⟩
end Go.Proofs.YtpggdojclhdkjaaDoor
