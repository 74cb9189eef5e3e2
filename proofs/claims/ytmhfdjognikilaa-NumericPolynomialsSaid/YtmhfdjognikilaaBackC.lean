/- Layer 16 (numeric), transforms: the inverse transform of a list of one, two or four values of whole parts. -/
import Derived.Test.YtmhfdjognikilaaBackB
namespace Go.Proofs.Ytmhfdjognikilaa
open Go.RowKit Go.Shelf

def conjW (z : Nat × Nat) : Nat × Nat := (z.1, z.2 ^^^ 2 ^ 31)
theorem CV.conj {p : Nat × Nat} {a : Cx} (h : CV p a) : CV (conjW p) (conj a) := ⟨h.1, h.2.neg⟩
theorem conj_call (z : Nat × Nat) (hz : z.2 < 2 ^ 32) (w : World) : Is 51 #[.complex .f32 z.1 z.2] w (cV (conjW z)) := conjugate_any _ _ _ w (bits_xor z.2 hz)

set_option maxRecDepth 100000 in
set_option maxHeartbeats 2000000 in
theorem conjP (w : World) (g n cap : Nat) (zs : Nat → Nat × Nat) (hn : 1 ≤ n ∧ n ≤ 5) (hg : g < w.heap.size) (hz : ∀ j, j < n → w.cell? ⟨g, j, none⟩ = some (cV (zs j))) (hv : ∀ j, j < n → (zs j).2 < 2 ^ 32) :
    Calls Try.prog 84 #[.slice (some ⟨g, 0, none⟩) n cap, .func (.func 51) #[] #[]] w fun e W' => ∃ v, e = .returned v ∧ Row W' v n (fun j => conjW (zs j)) ∧ Below w.heap.size w W' := by
  obtain ⟨cs, hmk, hcs⟩ := madeC n hn w
  have hb : n ≤ 5 := hn.2
  go_enter Try.func84, Try.ntmps84
  go_wp2
  have hM0 : Mp w w.heap.size n 0 (fun j => conjW (zs j)) (w.alloc (.cells cs 83)) := by
    refine ⟨(Below.refl _ _).alloc (Nat.le_refl _) _, Nat.le_refl _, by simp, fun j hj => by omega, fun j hj => ?_, fun j hj => ?_⟩
    · rw [(cell_cells (World.alloc_heap_new w _)).1, hcs j hj]; rfl
    · exact (cell_cells (World.alloc_heap_new w _)).2
  clear hmk hcs
  go_loopw [13] (fun i W => ∃ k : Nat, i = .int .i64 k ∧ k ≤ n ∧ Mp w w.heap.size n k (fun j => conjW (zs j)) W) (fun i _ => n - (intOf i).toNat)
  case atStart => exact ⟨0, rfl, Nat.zero_le _, hM0⟩
  case round =>
    obtain ⟨k, rfl, hk, hM⟩ := hrel
    by_cases hlt : k < n
    · have c1 : wr.cell? ⟨g, k, none⟩ = some (.complex .f32 (zs k).1 (zs k).2) := (hM.1.cell (p := ⟨g, k, none⟩) hg).trans (hz k hlt)
      have hcall := conj_call (zs k) (hv k hlt)
      obtain ⟨v0, hv0⟩ := Option.isSome_iff_exists.1 (hM.2.2.2.2.1 k hlt)
      have hf0 := hM.2.2.2.2.2 k hlt
      have HM := Lib.hid (hM.set hlt)
      clear hz hv hM0 hM
      go_wp2_with (go_at_call 51; refine (hcall _).mono ?_; rintro e w' ⟨rfl, rfl⟩)
      go_roundw
      case rel => exact ⟨k + 1, by simp, by omega, HM.out⟩
      case measure => simp [intOf]; omega
    · obtain rfl : k = n := by omega
      go_wp2
      go_ret
      exact ⟨_, rfl, ⟨w.heap.size, k, rfl, hM.2.2.1, Nat.le_refl _, hM.2.2.2.1⟩, hM.1⟩

/-- The closure that divides by the number of points. -/
theorem over_call (z y : Nat × Nat) (b d : Nat) (w : World) (hz : z.2 < 2 ^ 32) (hd : w.cell? ⟨b, 0, none⟩ = some (.float .f32 d)) (h1 : Ieee.single.div (conjW z).1 d = some y.1) (h2 : Ieee.single.div (conjW z).2 d = some y.2) :
    Is 85 #[.complex .f32 z.1 z.2, .pointer (some ⟨b, 0, none⟩)] w (cV y) := by
  have e1 : ∀ t w, (binOp .quo t (.float .f32 (conjW z).1) (.float .f32 d)).run Try.prog w = .ok (.float .f32 y.1) w := fun t w => run_float_arith w .quo t .f32 _ _ _ h1
  have e2 : ∀ t w, (binOp .quo t (.float .f32 (conjW z).2) (.float .f32 d)).run Try.prog w = .ok (.float .f32 y.2) w := fun t w => run_float_arith w .quo t .f32 _ _ _ h2
  have hcall := conj_call z hz
  clear h1 h2
  generalize conjW z = x at *
  go_enter Try.func85, Try.ntmps85
  go_wp2_with (go_at_call 51; refine (hcall _).mono ?_; rintro e w' ⟨rfl, rfl⟩)
  go_ret
  exact ⟨rfl, rfl⟩

set_option maxRecDepth 100000 in
set_option maxHeartbeats 2000000 in
theorem overP (w : World) (g n cap b d : Nat) (zs ys : Nat → Nat × Nat) (hn : 1 ≤ n ∧ n ≤ 5) (hg : g < w.heap.size) (hb0 : b < w.heap.size) (hz : ∀ j, j < n → w.cell? ⟨g, j, none⟩ = some (cV (zs j))) (hv : ∀ j, j < n → (zs j).2 < 2 ^ 32) (hd : w.cell? ⟨b, 0, none⟩ = some (.float .f32 d))
    (hy : ∀ j, j < n → Ieee.single.div (conjW (zs j)).1 d = some (ys j).1 ∧ Ieee.single.div (conjW (zs j)).2 d = some (ys j).2) :
    Calls Try.prog 84 #[.slice (some ⟨g, 0, none⟩) n cap, .func (.func 85) #[] #[.pointer (some ⟨b, 0, none⟩)]] w fun e W' => ∃ v, e = .returned v ∧ Row W' v n ys ∧ Below w.heap.size w W' := by
  obtain ⟨cs, hmk, hcs⟩ := madeC n hn w
  have hb : n ≤ 5 := hn.2
  go_enter Try.func84, Try.ntmps84
  go_wp2
  have hM0 : Mp w w.heap.size n 0 ys (w.alloc (.cells cs 83)) := by
    refine ⟨(Below.refl _ _).alloc (Nat.le_refl _) _, Nat.le_refl _, by simp, fun j hj => by omega, fun j hj => ?_, fun j hj => ?_⟩
    · rw [(cell_cells (World.alloc_heap_new w _)).1, hcs j hj]; rfl
    · exact (cell_cells (World.alloc_heap_new w _)).2
  clear hmk hcs
  go_loopw [13] (fun i W => ∃ k : Nat, i = .int .i64 k ∧ k ≤ n ∧ Mp w w.heap.size n k ys W) (fun i _ => n - (intOf i).toNat)
  case atStart => exact ⟨0, rfl, Nat.zero_le _, hM0⟩
  case round =>
    obtain ⟨k, rfl, hk, hM⟩ := hrel
    by_cases hlt : k < n
    · have c1 : wr.cell? ⟨g, k, none⟩ = some (.complex .f32 (zs k).1 (zs k).2) := (hM.1.cell (p := ⟨g, k, none⟩) hg).trans (hz k hlt)
      have cd : wr.cell? ⟨b, 0, none⟩ = some (.float .f32 d) := (hM.1.cell (p := ⟨b, 0, none⟩) hb0).trans hd
      have hcall := over_call (zs k) (ys k) b d wr (hv k hlt) cd (hy k hlt).1 (hy k hlt).2
      obtain ⟨v0, hv0⟩ := Option.isSome_iff_exists.1 (hM.2.2.2.2.1 k hlt)
      have hf0 := hM.2.2.2.2.2 k hlt
      have HM := Lib.hid (hM.set hlt)
      clear hz hv hM0 hM hy cd
      go_wp2_with (go_at_call 85; refine hcall.mono ?_; rintro e w' ⟨rfl, rfl⟩)
      go_roundw
      case rel => exact ⟨k + 1, by simp, by omega, HM.out⟩
      case measure => simp [intOf]; omega
    · obtain rfl : k = n := by omega
      go_wp2
      go_ret
      exact ⟨_, rfl, ⟨w.heap.size, k, rfl, hM.2.2.1, Nat.le_refl _, hM.2.2.2.1⟩, hM.1⟩
end Go.Proofs.Ytmhfdjognikilaa
