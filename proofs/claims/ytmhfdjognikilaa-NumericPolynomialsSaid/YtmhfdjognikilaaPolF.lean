/- Layer 16 (numeric), any words of F32: lists that are alike. -/
import Derived.Test.YtmhfdjognikilaaPolE
namespace Go.Proofs.Ytmhfdjognikilaa
open Go.RowKit Go.Shelf

theorem LW.inp {W : World} {v : Value} {n : Nat} {zs : Nat → Nat × Nat} (h : LW W v n zs) : ∃ ga cap, v = .slice ga n cap ∧ Inp W ga n zs := by
  rcases h with ⟨rfl, rfl⟩ | ⟨h1, g, cap, rfl, -, hN⟩
  · exact ⟨_, _, rfl, .inl rfl⟩
  · exact ⟨_, _, rfl, .inr ⟨g, 0, rfl, hN.1, fun j hj => by rw [Nat.zero_add]; exact hN.2 j hj⟩⟩

set_option maxRecDepth 100000 in
set_option maxHeartbeats 2000000 in
theorem alike_any (w : World) (ga gb : Option Addr) (n ca cb : Nat) (zs : Nat → Nat × Nat) (hn : n ≤ 200) (ha : Inp w ga n zs) (hb : Inp w gb n zs) : Gives 12 #[.slice ga n ca, .slice gb n cb] w (.bool true) := by
  go_enter Try.func12, Try.ntmps12
  go_wp2_with fail
  go_loopw [13] (fun i W => ∃ k : Nat, i = .int .i64 k ∧ k ≤ n ∧ Below w.heap.size w W) (fun i _ => n - (intOf i).toNat)
  case atStart => exact ⟨0, rfl, by omega, Below.refl _ _⟩
  case round =>
    obtain ⟨k, rfl, hk, hB⟩ := hrel
    by_cases hlt : k < n
    · obtain ha | ⟨b, o, rfl, lb, hx⟩ := ha
      · omega
      obtain hb | ⟨b', o', rfl, lb', hx'⟩ := hb
      · omega
      obtain ⟨c0, c1⟩ := hx k hlt
      obtain ⟨c2, c3⟩ := hx' k hlt
      replace c0 := (hB.cell (p := ⟨b, o + k * 2, none⟩) lb).trans c0
      replace c1 := (hB.cell (p := ⟨b, o + k * 2 + 1, none⟩) lb).trans c1
      replace c2 := (hB.cell (p := ⟨b', o' + k * 2, none⟩) lb').trans c2
      replace c3 := (hB.cell (p := ⟨b', o' + k * 2 + 1, none⟩) lb').trans c3
      clear hx hx'
      generalize (zs k).1 = x1 at *
      generalize (zs k).2 = x2 at *
      go_wp2
      go_quiet (fail)
      go_wp2
      go_roundw
      case rel => exact ⟨k + 1, by simp, by omega, below_drewN hB _⟩
      case measure => simp [intOf]; omega
    · obtain rfl : k = n := by omega
      clear ha hb
      go_wp2
      go_ret
      exact ⟨rfl, hB⟩
end Go.Proofs.Ytmhfdjognikilaa
