/- Layer 16 (numeric), any words of F32: lists of numbers as lists of values, and back, of any length from 1 to 200. -/
import Derived.Test.YtmhfdjognikilaaPolB
import Derived.Test.YtmhfdjognikilaaFloH
import Derived.Laws.MakeOwn
namespace Go.Proofs.Ytmhfdjognikilaa
open Go.RowKit Go.Shelf

/-- A pair of words, NaNs all one. -/
def cnp (p : Nat × Nat) : Nat × Nat := (cn p.1, cn p.2)

theorem madeWC (n : Nat) (hn : 1 ≤ n ∧ n ≤ 200) (W : World) : ∃ cs : Array Value, (Instr.makeSlice 94 (.int .i64 n) (.int .i64 n)).run Try.prog W = .ok (.slice (some ⟨W.heap.size, 0, none⟩) n n) (W.alloc (.cells cs 83)) ∧ ∀ j, j < n → cs[j]? = some (.complex .f32 0 0) := by
  obtain ⟨i0, hi, hz0, hz1, hz2⟩ := info_parts info83
  have e := run_makeSlice (P := Try.prog) W 94 83 i0 (.complex .f32 0 0) Try.underlying94 hi hz0 .i64 .i64 n n (by omega) (by omega) (by rw [hz1]; omega) (by rw [hz2]; omega) (by omega)
  rw [hz1, Int.toNat_natCast, Nat.mul_one] at e
  refine ⟨_, e, fun j hj => ?_⟩
  simp [madeCells, Value.cells, hj, Nat.mod_one]

theorem madeWN (n : Nat) (hn : 1 ≤ n ∧ n ≤ 200) (W : World) : ∃ cs : Array Value, (Instr.makeSlice 24 (.int .i64 n) (.int .i64 n)).run Try.prog W = .ok (.slice (some ⟨W.heap.size, 0, none⟩) n n) (W.alloc (.cells cs 32)) ∧ ∀ j, j < 2 * n → cs[j]? = some (.int .u32 0) := by
  obtain ⟨i0, hi, hz0, hz1, hz2⟩ := info_parts info32
  have e := run_makeSlice (P := Try.prog) W 24 32 i0 (.agg #[.int .u32 0, .int .u32 0]) Try.underlying24 hi hz0 .i64 .i64 n n (by omega) (by omega) (by rw [hz1]; omega) (by rw [hz2]; omega) (by omega)
  rw [hz1, Int.toNat_natCast] at e
  refine ⟨_, e, fun j hj => ?_⟩
  have h2 : j % 2 = 0 ∨ j % 2 = 1 := by omega
  have hj' : j < n * 2 := by omega
  rcases h2 with h | h <;> simp [madeCells, Value.cells, hj', h]

set_option maxRecDepth 100000 in
set_option maxHeartbeats 2000000 in
theorem valuesW (w : World) (g n cap : Nat) (zs : Nat → Nat × Nat) (hn : 1 ≤ n ∧ n ≤ 200) (hz : Nums w g n zs) :
    Calls Try.prog 62 #[.slice (some ⟨g, 0, none⟩) n cap, .func (.func 48) #[] #[]] w fun e W' => ∃ v, e = .returned v ∧ Row W' v n (fun j => cnp (zs j)) ∧ Below w.heap.size w W' := by
  obtain ⟨cs, hmk, hcs⟩ := madeWC n hn w
  have hb : n ≤ 200 := hn.2
  go_enter Try.func62, Try.ntmps62
  go_wp2
  have hM0 : Mp w w.heap.size n 0 (fun j => cnp (zs j)) (w.alloc (.cells cs 83)) := by
    refine ⟨(Below.refl _ _).alloc (Nat.le_refl _) _, Nat.le_refl _, by simp, fun j hj => by omega, fun j hj => ?_, fun j hj => ?_⟩
    · rw [(cell_cells (World.alloc_heap_new w _)).1, hcs j hj]; rfl
    · exact (cell_cells (World.alloc_heap_new w _)).2
  clear hmk hcs
  go_loopw [13] (fun i W => ∃ k : Nat, i = .int .i64 k ∧ k ≤ n ∧ Mp w w.heap.size n k (fun j => cnp (zs j)) W) (fun i _ => n - (intOf i).toNat)
  case atStart => exact ⟨0, rfl, Nat.zero_le _, hM0⟩
  case round =>
    obtain ⟨k, rfl, hk, hM⟩ := hrel
    by_cases hlt : k < n
    · have c1 := (hM.1.cell (p := ⟨g, k * 2, none⟩) hz.1).trans (hz.2 k hlt).1
      have c2 := (hM.1.cell (p := ⟨g, k * 2 + 1, none⟩) hz.1).trans (hz.2 k hlt).2
      clear hz hM0
      go_wp2_with (go_at_call 48; refine (value_cn _ _ _).mono ?_; rintro e w' ⟨rfl, hB1⟩; have hM1 := (hM.keep ((Below.refl _ _).alloc (Nat.le_refl _) _)).keep hB1; obtain ⟨v0, hv0⟩ := Option.isSome_iff_exists.1 (hM1.2.2.2.2.1 k hlt); have hf0 := hM1.2.2.2.2.2 k hlt)
      go_roundw
      case rel => exact ⟨k + 1, by simp, by omega, hM1.set hlt⟩
      case measure => simp [intOf]; omega
    · obtain rfl : k = n := by omega
      go_wp2
      go_ret
      exact ⟨_, rfl, ⟨w.heap.size, k, rfl, hM.2.2.1, Nat.le_refl _, hM.2.2.2.1⟩, hM.1⟩

set_option maxRecDepth 100000 in
set_option maxHeartbeats 2000000 in
theorem numbersW (w : World) (g n cap : Nat) (zs : Nat → Nat × Nat) (hn : 1 ≤ n ∧ n ≤ 200) (hg : g < w.heap.size) (hz : ∀ j, j < n → w.cell? ⟨g, j, none⟩ = some (cV (zs j))) :
    Calls Try.prog 63 #[.slice (some ⟨g, 0, none⟩) n cap, .func (.func 47) #[] #[]] w fun e W' => ∃ g', e = .returned (.slice (some ⟨g', 0, none⟩) n n) ∧ Nums W' g' n (fun j => cnp (zs j)) ∧ Below w.heap.size w W' := by
  obtain ⟨cs, hmk, hcs⟩ := madeWN n hn w
  have hb : n ≤ 200 := hn.2
  go_enter Try.func63, Try.ntmps63
  go_wp2
  have hM0 : Mq w w.heap.size n 0 (fun j => cnp (zs j)) (w.alloc (.cells cs 32)) := by
    refine ⟨(Below.refl _ _).alloc (Nat.le_refl _) _, Nat.le_refl _, by simp, fun j hj => by omega, fun j hj => ?_, fun j hj => ?_⟩
    · rw [(cell_cells (World.alloc_heap_new w _)).1, hcs j hj]; rfl
    · exact (cell_cells (World.alloc_heap_new w _)).2
  clear hmk hcs
  go_loopw [13] (fun i W => ∃ k : Nat, i = .int .i64 k ∧ k ≤ n ∧ Mq w w.heap.size n k (fun j => cnp (zs j)) W) (fun i _ => n - (intOf i).toNat)
  case atStart => exact ⟨0, rfl, Nat.zero_le _, hM0⟩
  case round =>
    obtain ⟨k, rfl, hk, hM⟩ := hrel
    by_cases hlt : k < n
    · have c1 : wr.cell? ⟨g, k, none⟩ = some (.complex .f32 (zs k).1 (zs k).2) := (hM.1.cell (p := ⟨g, k, none⟩) hg).trans (hz k hlt)
      clear hz hM0
      go_wp2_with (go_at_call 47; refine (number_cn _ _ _).mono ?_; rintro e w' ⟨rfl, hB1⟩; have hM1 := hM.keep hB1; obtain ⟨v0, hv0⟩ := Option.isSome_iff_exists.1 (hM1.2.2.2.2.1 (k * 2) (by omega)); obtain ⟨v1, hv1⟩ := Option.isSome_iff_exists.1 (hM1.2.2.2.2.1 (k * 2 + 1) (by omega)); have hf0 := hM1.2.2.2.2.2 (k * 2) (by omega); have hf1 := hM1.2.2.2.2.2 (k * 2 + 1) (by omega))
      go_roundw
      case rel => exact ⟨k + 1, by simp, by omega, hM1.set hlt⟩
      case measure => simp [intOf]; omega
    · obtain rfl : k = n := by omega
      go_wp2
      go_ret
      exact ⟨_, rfl, ⟨hM.2.2.1, hM.2.2.2.1⟩, hM.1⟩

end Go.Proofs.Ytmhfdjognikilaa
