/- Layer 16, part I. -/
import Derived.Test.YtmhfdjognikilaaFloH
import Derived.Carry
namespace Go.Proofs.Ytmhfdjognikilaa
open Go.RowKit Go.Shelf

theorem But.above {w W W' : World} {r : Nat} (hr : w.heap.size ≤ r) (hB : Below w.heap.size w W) (h : But r W W') : Below w.heap.size w W' :=
  hB.trans ⟨h.os, h.tape, h.output, h.size, fun k hk => h.block k (by have := hB.size; omega) (by intro e; cases e; omega)⟩

theorem new_any (w : World) : Calls Try.prog 67 #[] w fun e W' => ∃ r, e = .returned (.agg #[.map (some r)]) ∧ W'.heap[r]? = some (.map #[] 0) ∧ w.heap.size ≤ r ∧ Below w.heap.size w W' := by
  have hmm := @run_makeMap Try.prog
  go_enter Try.func67, Try.ntmps67
  go_wp2
  refine bodyPost_ret (v := .agg #[.map (some (w.heap.size + 1))]) ?_ rfl ?_
  · have hg : ((w.alloc (Obj.cells #[Value.map (some (w.heap.size + 1))] 102)).alloc (Obj.map #[] 0)).heap[w.heap.size]? = some (.cells #[.map (some (w.heap.size + 1))] 102) :=
      heap_alloc2_old w _ _
    exact results_cell_row (fn := Try.f67) rfl _ _ w.heap.size 102 #[.map (some (w.heap.size + 1))] (0, 0) _ rfl hg Try.underlying102 rfl (by kernel_rfl)
  exact ⟨_, rfl, heap_alloc2_new w _ _, by omega, ((Below.refl _ _).alloc (Nat.le_refl _) _).alloc (by simp) _⟩

theorem length_4 (w : World) : Is 64 #[.int .i64 4] w (.bool true) := by
  go_enter Try.func64, Try.ntmps64
  go_wp2
  go_ret
  exact ⟨rfl, rfl⟩

theorem Nums.below {w w' : World} {g n : Nat} {zs : Nat → Nat × Nat} (hB : Below w.heap.size w w') (h : Nums w g n zs) : Nums w' g n zs :=
  ⟨Nat.lt_of_lt_of_le h.1 hB.size, fun j hj => ⟨(hB.cell (p := ⟨g, j * 2, none⟩) h.1).trans (h.2 j hj).1, (hB.cell (p := ⟨g, j * 2 + 1, none⟩) h.1).trans (h.2 j hj).2⟩⟩

set_option maxRecDepth 100000 in
set_option maxHeartbeats 2000000 in
theorem transform_4 (w : World) (g cap : Nat) (zs ys : Nat → Nat × Nat) (sE dE sO dO : Nat × Nat) (hz : Nums w g 4 zs) (hv : ∀ j, j < 4 → Num (zs j).1 ∧ Num (zs j).2) (hy : ∀ j, j < 4 → Num (ys j).1 ∧ Num (ys j).2) (hF : Four zs ys sE dE sO dO) :
    Calls Try.prog 34 #[.slice (some ⟨g, 0, none⟩) 4 cap, .bool false] w fun e W' => ∃ g', e = .returned (.tuple #[.slice (some ⟨g', 0, none⟩) 4 4, .int .i64 0]) ∧ Nums W' g' 4 ys ∧ Below w.heap.size w W' := by
  go_enter Try.func34, Try.ntmps34
  go_wp2_with (first
    | (go_at_call 64; refine (length_4 _).mono ?_; rintro e w' ⟨rfl, rfl⟩)
    | (go_at_call 67; refine (new_any _).mono ?_; rintro e w1 ⟨r, rfl, hm, hr, hB1⟩))
  have hBa : Below w1.heap.size w1 (w1.alloc (.cells #[.map (some r)] 102)) := (Below.refl _ _).alloc (Nat.le_refl _) _
  refine (values_any _ g 4 cap zs (by omega) (Nums.below (hB1.trans (hBa.mono hB1.size)) hz) hv).mono ?_
  rintro e w2 ⟨v, rfl, hrow, hB2⟩
  obtain ⟨gv, cv, rfl, hgv⟩ := hrow
  have hr1 : r < w1.heap.size := (Array.getElem?_eq_some_iff.1 hm).1
  have hm2 : w2.heap[r]? = some (.map #[] 0) := (hB2.block r (by simp; omega)).trans ((hBa.block r hr1).trans hm)
  have hW2 : Below w.heap.size w w2 := (hB1.trans (hBa.mono hB1.size)).trans (hB2.mono (by have := hB1.size; simp; omega))
  clear hB2 hBa hm hr1 hB1 hz
  go_wp2_with (first
    | (go_at_call 68; refine (of_4 _ r 0 gv cv zs ys sE dE sO dO hm2 hgv.1 hgv.2.2 hF).mono ?_; rintro e w3 ⟨v, rfl, hrow, hb3⟩; obtain ⟨gw, cw, rfl, hgw⟩ := hrow)
    | (go_at_call 63; refine (numbers_any _ gw 4 cw ys (by omega) hgw.1 hgw.2.2 hy).mono ?_; rintro e w4 ⟨gn, rfl, hn, hB4⟩))
  go_ret2
  exact ⟨gn, rfl, hn, (But.above hr hW2 hb3).trans (hB4.mono (by have := hW2.size; have := hb3.size; omega))⟩

end Go.Proofs.Ytmhfdjognikilaa
