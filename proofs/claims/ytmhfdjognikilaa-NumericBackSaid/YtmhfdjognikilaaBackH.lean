/- Layer 16 (numeric), transforms: Spectrum of one, two or four small whole samples; lists of words that are compared. -/
import Derived.Test.YtmhfdjognikilaaBackG
namespace Go.Proofs.Ytmhfdjognikilaa
open Go.RowKit Go.Shelf

/-- The words of a spectrum. -/
def spw (s : Nat → Int) (n k : Nat) : Nat := Ytmhfdjognikilaa.wordOf false (pw (ft (fun j => (s j, 0)) n k)).natAbs

set_option maxRecDepth 100000 in
set_option maxHeartbeats 2000000 in
theorem spectrumC (w : World) (g n cap : Nat) (bs : Nat → Nat) (s : Nat → Int) (hn : n = 1 ∨ n = 2 ∨ n = 4) (hg : g < w.heap.size) (hz : ∀ j, j < n → w.cell? ⟨g, j, none⟩ = some (.int .u32 (bs j))) (hv : ∀ j, j < n → Val (bs j) (s j)) (hs : ∀ j, j < n → -1000 ≤ s j ∧ s j ≤ 1000) :
    Calls Try.prog 36 #[.slice (some ⟨g, 0, none⟩) n cap] w fun e W' => ∃ g', e = .returned (.tuple #[.slice (some ⟨g', 0, none⟩) (n / 2 + 1 : Nat) (n / 2 + 1 : Nat), .int .i64 0]) ∧ g' < W'.heap.size ∧ (∀ k, k < n / 2 + 1 → W'.cell? ⟨g', k, none⟩ = some (.int .u32 (spw s n k))) ∧ Below w.heap.size w W' := by
  have hnn : 1 ≤ n ∧ n ≤ 5 := by omega
  have hpw : ∀ k, k < n → pw (ft (fun j => (s j, 0)) n k) < 16777216 := fun k hk => pw_small s n k hn hk hs
  have hcv : ∀ j, j < n → CV (bs j, 0) (s j, 0) ∧ Bd 100000 (s j, 0) := fun j hj => ⟨⟨hv j hj, val_zero⟩, by have := hs j hj; unfold Bd; simp; omega⟩
  have hnum : ∀ j, j < n → Num (bs j) := fun j hj => (hv j hj).num
  have hh : n / 2 + 1 ≤ n := by omega
  obtain ⟨h, hhh⟩ : ∃ h, n / 2 + 1 = h := ⟨_, rfl⟩
  have hd : ((n : Int) / 2 + 1) = (h : Int) := by omega
  have h15 : 1 ≤ h ∧ h ≤ 5 := by omega
  rw [hhh] at hh ⊢
  clear hs hv hhh
  go_enter Try.func36, Try.ntmps36
  go_wp2_with (first
    | (go_at_call 64; refine (length_n _ hn _).mono ?_; rintro e w' ⟨rfl, rfl⟩)
    | (go_at_call 71; refine (realsP _ g n cap bs hnn hg hz hnum).mono ?_; rintro e w1 ⟨v1, rfl, ⟨g1, c1, rfl, hg1, hc1, hz1⟩, hB1⟩)
    | (go_at_call 67; refine (new_any _).mono ?_; rintro e w2 ⟨r, rfl, hm, hr, hB2⟩; have hz2 : ∀ j, j < n → w2.cell? ⟨g1, j, none⟩ = some (cV (bs j, 0)) := fun j hj => (hB2.cell (p := ⟨g1, j, none⟩) hg1).trans (hz1 j hj); have hg2 : g1 < w2.heap.size := Nat.lt_of_lt_of_le hg1 hB2.size; have hW2 : Below w.heap.size w w2 := hB1.trans (hB2.mono hB1.size))
    | (go_at_call 68; refine (ofC _ r 0 g1 c1 n _ (fun j => (s j, 0)) hn hc1 hm hg2 hz2 hcv).mono ?_; rintro e w3 ⟨v3, ys, rfl, ⟨g3, c3, rfl, hg3, hc3, hz3⟩, hval, hbut⟩; have hcap3 : h ≤ c3 := Nat.le_trans hh hc3)
    | (go_at_call 73; refine (powersP _ g3 h c3 ys (ft (fun j => (s j, 0)) n) h15 hg3 (fun j hj => hz3 j (by omega)) (fun j hj => ⟨hval j (by omega), hpw j (by omega)⟩)).mono ?_; rintro e w4 ⟨g4, rfl, hg4, hz4, hB4⟩))
  go_ret2
  exact ⟨g4, rfl, hg4, hz4, (But.above (Nat.le_trans hB1.size hr) hW2 hbut).trans (hB4.mono (by have := hW2.size; have := hbut.size; omega))⟩

set_option maxRecDepth 100000 in
set_option maxHeartbeats 2000000 in
/-- Two lists of the same words are equal. -/
theorem equalU (w : World) (g h n cg ch : Nat) (us : Nat → Nat) (hn : n ≤ 5) (hg : g < w.heap.size) (hh : h < w.heap.size) (hy : ∀ j, j < n → w.cell? ⟨g, j, none⟩ = some (.int .u32 (us j))) (hz : ∀ j, j < n → w.cell? ⟨h, j, none⟩ = some (.int .u32 (us j))) :
    Gives 38 #[.slice (some ⟨g, 0, none⟩) n cg, .slice (some ⟨h, 0, none⟩) n ch] w (.bool true) := by
  go_enter Try.func38, Try.ntmps38
  go_wp2
  go_loopw [13] (fun i W => ∃ k : Nat, i = .int .i64 k ∧ k ≤ n ∧ Below w.heap.size w W) (fun i _ => n - (intOf i).toNat)
  case atStart => exact ⟨0, rfl, Nat.zero_le _, Below.refl _ _⟩
  case round =>
    obtain ⟨k, rfl, hk, hB⟩ := hrel
    by_cases hlt : k < n
    · have e1 := (hB.cell (p := ⟨g, k, none⟩) hg).trans (hy k hlt)
      have e2 := (hB.cell (p := ⟨h, k, none⟩) hh).trans (hz k hlt)
      clear hy hz
      generalize us k = x at *
      have hne : ((x : Int) != (x : Int)) = false := by simp
      go_wp2_with fail
      go_quiet (fail)
      go_wp2
      all_goals
        go_roundw
        case rel => exact ⟨k + 1, by simp, by omega, below_drewN hB _⟩
        case measure => simp [intOf]; omega
    · obtain rfl : k = n := by omega
      clear hy hz
      go_wp2
      go_ret
      exact ⟨rfl, hB⟩
end Go.Proofs.Ytmhfdjognikilaa
