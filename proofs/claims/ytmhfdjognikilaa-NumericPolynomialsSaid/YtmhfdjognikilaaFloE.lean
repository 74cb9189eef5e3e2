/- Layer 16 (numeric): a transform of 2 points. -/
import Derived.Test.YtmhfdjognikilaaFloD
import Derived.Lib.Hide
import Derived.BigRegion
namespace Go.Proofs.Ytmhfdjognikilaa
open Go.RowKit Go.Shelf

theorem collect_any (Bf Bl b h cap fr : Nat) (zs : Nat → Nat × Nat) (hfr : fr ≤ 1) (h1 : 1 ≤ h) (hh : h ≤ 100) (w : World) (hb : b < w.heap.size) (hl : Bl < w.heap.size) (hf : Bf < w.heap.size)
    (hBf : w.cell? ⟨Bf, 0, none⟩ = some (.int .i64 fr)) (hBl : w.cell? ⟨Bl, 0, none⟩ = some (.slice (some ⟨b, 0, none⟩) (2 * h) cap)) (hc : ∀ j, j < 2 * h → w.cell? ⟨b, j, none⟩ = some (cV (zs j))) :
    Calls Try.prog 81 #[.func (.func 88) #[] #[.pointer (some ⟨Bf, 0, none⟩), .pointer (some ⟨Bl, 0, none⟩)]] w fun e W' => ∃ v, e = .returned v ∧ Row W' v h (fun j => zs (fr + 2 * j)) ∧ Below w.heap.size w W' := by
  have hA := callsIn_wide.1 (appendSeq_in Fence.wide 3 trivial trivial rfl (by omega) Bf Bl b h cap fr zs hfr hh w hb hl hf hBf hBl hc)
  clear hBf hBl hc
  go_enter Try.func81, Try.ntmps81
  go_wp2_with (go_at_call 87; refine hA.mono ?_; rintro e w' ⟨v, rfl, hrow, hB⟩)
  go_ret
  refine ⟨v, rfl, ?_, hB⟩
  obtain ⟨g, cap', e, hg, hc, hz⟩ := ownsRow_row hrow h1
  refine ⟨g, cap', e, hg, hc, fun j hj => ?_⟩
  rw [hz j hj]
  simp [upto, List.getD_eq_getElem?_getD, hj]

theorem every_any (a : Option Addr) (l c fr : Nat) (w : World) :
    Calls Try.prog 82 #[.slice a l c, .int .i64 fr] w fun e W' => e = .returned (.func (.func 88) #[] #[.pointer (some ⟨w.heap.size + 1, 0, none⟩), .pointer (some ⟨w.heap.size, 0, none⟩)]) ∧ W' = (w.alloc (.cells #[.slice a l c] 94)).alloc (.cells #[.int .i64 fr] 3) := by
  go_enter Try.func82, Try.ntmps82
  go_wp2
  go_ret
  exact ⟨rfl, rfl⟩

theorem of_1 (r : Nat) (a : Option Addr) (c : Nat) (w : World) : Gives 68 #[.agg #[.map (some r)], .slice a 1 c] w (.slice a 1 c) := by
  go_enter Try.func68, Try.ntmps68
  go_wp2
  go_ret
  exact ⟨rfl, (Below.refl _ _).alloc (Nat.le_refl _) _⟩

/-- What lies while halves are collected. -/
def Rest (W : World) (r : Nat) (o : Obj) (g n : Nat) (zs : Nat → Nat × Nat) (w' : World) : Prop :=
  But r W w' ∧ W.heap.size + 1 ≤ w'.heap.size ∧ w'.heap[r]? = some o ∧ (∀ j, j < n → w'.cell? ⟨g, j, none⟩ = some (cV (zs j))) ∧ r < W.heap.size ∧ g < W.heap.size
abbrev Held (W : World) (r : Nat) (o : Obj) (g n : Nat) (zs : Nat → Nat × Nat) (w' : World) : Prop := w'.cell? ⟨W.heap.size, 0, none⟩ = some (.map (some r)) ∧ Rest W r o g n zs w'
theorem Held.keep {W : World} {r : Nat} {o : Obj} {g n : Nat} {zs : Nat → Nat × Nat} {w w' : World} (hB : Below w.heap.size w w') (h : Held W r o g n zs w) : Held W r o g n zs w' := by
  obtain ⟨h1, hbt, hsz, hr, hc, hrl, hgl⟩ := h
  have := hB.size
  exact ⟨(hB.cell (p := ⟨W.heap.size, 0, none⟩) (by simp; omega)).trans h1, hbt.trans (But.of_below hB), by omega, (hB.block r (by omega)).trans hr, fun j hj => (hB.cell (p := ⟨g, j, none⟩) (by simp; omega)).trans (hc j hj), hrl, hgl⟩
theorem Held.drew {W : World} {r : Nat} {o : Obj} {g n : Nat} {zs : Nat → Nat × Nat} {w : World} (h : Held W r o g n zs w) : Held W r o g n zs w.drew := h.keep (Below.refl _ _).drew
theorem Held.alloc2 {W : World} {r : Nat} {o : Obj} {g n : Nat} {zs : Nat → Nat × Nat} {w : World} (o1 o2 : Obj) (h : Held W r o g n zs w) : Held W r o g n zs ((w.alloc o1).alloc o2) :=
  h.keep (((Below.refl _ _).alloc (Nat.le_refl _) _).alloc (by simp) _)
theorem Held.start {W : World} {r : Nat} {o : Obj} {g n : Nat} {zs : Nat → Nat × Nat} (hr : W.heap[r]? = some o) (hg : g < W.heap.size) (hc : ∀ j, j < n → W.cell? ⟨g, j, none⟩ = some (cV (zs j))) : Held W r o g n zs (W.alloc (.cells #[.map (some r)] 102)) := by
  have hB : Below W.heap.size W (W.alloc (.cells #[.map (some r)] 102)) := (Below.refl _ _).alloc (Nat.le_refl _) _
  have hrl : r < W.heap.size := (Array.getElem?_eq_some_iff.1 hr).1
  exact ⟨box1 _ _ _, But.of_below hB, by simp, (hB.block r hrl).trans hr, fun j hj => (hB.cell (p := ⟨g, j, none⟩) hg).trans (hc j hj), hrl, hg⟩

/-- .. and a row that was collected. -/
abbrev Held2 (W : World) (r : Nat) (o : Obj) (g n : Nat) (zs : Nat → Nat × Nat) (v : Value) (k : Nat) (ys : Nat → Nat × Nat) (w' : World) : Prop := w'.cell? ⟨W.heap.size, 0, none⟩ = some (.map (some r)) ∧ Rest W r o g n zs w' ∧ Row w' v k ys
theorem Held2.keep {W : World} {r : Nat} {o : Obj} {g n : Nat} {zs : Nat → Nat × Nat} {v : Value} {k : Nat} {ys : Nat → Nat × Nat} {w w' : World} (hB : Below w.heap.size w w') (h : Held2 W r o g n zs v k ys w) : Held2 W r o g n zs v k ys w' :=
  ⟨(Held.keep hB ⟨h.1, h.2.1⟩).1, (Held.keep hB ⟨h.1, h.2.1⟩).2, h.2.2.below hB⟩
theorem Held2.drew {W : World} {r : Nat} {o : Obj} {g n : Nat} {zs : Nat → Nat × Nat} {v : Value} {k : Nat} {ys : Nat → Nat × Nat} {w : World} (h : Held2 W r o g n zs v k ys w) : Held2 W r o g n zs v k ys w.drew := h.keep (Below.refl _ _).drew
theorem Held2.alloc2 {W : World} {r : Nat} {o : Obj} {g n : Nat} {zs : Nat → Nat × Nat} {v : Value} {k : Nat} {ys : Nat → Nat × Nat} {w : World} (o1 o2 : Obj) (h : Held2 W r o g n zs v k ys w) : Held2 W r o g n zs v k ys ((w.alloc o1).alloc o2) :=
  h.keep (((Below.refl _ _).alloc (Nat.le_refl _) _).alloc (by simp) _)
theorem coll {W X : World} {r : Nat} {o : Obj} {g h cap fr Bf Bl : Nat} {zs : Nat → Nat × Nat} (hfr : fr ≤ 1) (h1 : 1 ≤ h) (hh : h ≤ 100) (hH : Held W r o g (2 * h) zs X) (hf : Bf < X.heap.size) (hl : Bl < X.heap.size)
    (hBf : X.cell? ⟨Bf, 0, none⟩ = some (.int .i64 fr)) (hBl : X.cell? ⟨Bl, 0, none⟩ = some (.slice (some ⟨g, 0, none⟩) (2 * h : Nat) cap)) :
    Calls Try.prog 81 #[.func (.func 88) #[] #[.pointer (some ⟨Bf, 0, none⟩), .pointer (some ⟨Bl, 0, none⟩)]] X fun e W' => ∃ v, e = .returned v ∧ Row W' v h (fun j => zs (fr + 2 * j)) ∧ Below X.heap.size X W' :=
  collect_any Bf Bl g h cap fr zs hfr h1 hh X (by have := hH.2.1.size; have := hH.2.2.2.2.2.2; omega) hl hf hBf hBl hH.2.2.2.2.1

theorem coll2 {W X : World} {r : Nat} {o : Obj} {g h cap fr Bf Bl k : Nat} {zs ys : Nat → Nat × Nat} {u : Value} (hfr : fr ≤ 1) (h1 : 1 ≤ h) (hh : h ≤ 100) (hH : Held2 W r o g (2 * h) zs u k ys X) (hf : Bf < X.heap.size) (hl : Bl < X.heap.size)
    (hBf : X.cell? ⟨Bf, 0, none⟩ = some (.int .i64 fr)) (hBl : X.cell? ⟨Bl, 0, none⟩ = some (.slice (some ⟨g, 0, none⟩) (2 * h : Nat) cap)) :
    Calls Try.prog 81 #[.func (.func 88) #[] #[.pointer (some ⟨Bf, 0, none⟩), .pointer (some ⟨Bl, 0, none⟩)]] X fun e W' => ∃ v, e = .returned v ∧ Row W' v h (fun j => zs (fr + 2 * j)) ∧ Below X.heap.size X W' :=
  coll hfr h1 hh ⟨hH.1, hH.2.1⟩ hf hl hBf hBl

@[go_sem] theorem mk2 (w : World) : (Instr.makeSlice 94 (.int .i64 2) (.int .i64 2)).run Try.prog w = .ok (.slice (some ⟨w.heap.size, 0, none⟩) 2 2) (w.alloc (.cells #[.complex .f32 0 0, .complex .f32 0 0] 83)) := by
  obtain ⟨i0, hi, hz0, hz1, hz2⟩ := info_parts info83
  have h := run_makeSlice (P := Try.prog) w 94 83 i0 (.complex .f32 0 0) Try.underlying94 hi hz0 .i64 .i64 2 2 (by omega) (by omega) (by rw [hz1]; decide) (by rw [hz2]; decide) (by omega)
  have hm : madeCells (Value.complex FloatKind.f32 0 0).cells (Int.toNat 2 * 1) = #[.complex .f32 0 0, .complex .f32 0 0] := by kernel_rfl
  rw [h, hz1, hm]
  rfl
@[go_sem] theorem mk4 (w : World) : (Instr.makeSlice 94 (.int .i64 4) (.int .i64 4)).run Try.prog w = .ok (.slice (some ⟨w.heap.size, 0, none⟩) 4 4) (w.alloc (.cells #[.complex .f32 0 0, .complex .f32 0 0, .complex .f32 0 0, .complex .f32 0 0] 83)) := by
  obtain ⟨i0, hi, hz0, hz1, hz2⟩ := info_parts info83
  have h := run_makeSlice (P := Try.prog) w 94 83 i0 (.complex .f32 0 0) Try.underlying94 hi hz0 .i64 .i64 4 4 (by omega) (by omega) (by rw [hz1]; decide) (by rw [hz2]; decide) (by omega)
  have hm : madeCells (Value.complex FloatKind.f32 0 0).cells (Int.toNat 4 * 1) = #[.complex .f32 0 0, .complex .f32 0 0, .complex .f32 0 0, .complex .f32 0 0] := by kernel_rfl
  rw [h, hz1, hm]
  rfl

/-- Sums and differences of values. -/
def SumD (a b s d : Nat × Nat) : Prop := Ieee.single.add a.1 b.1 = some s.1 ∧ Ieee.single.add a.2 b.2 = some s.2 ∧ Ieee.single.sub a.1 b.1 = some d.1 ∧ Ieee.single.sub a.2 b.2 = some d.2

theorem SumD.ops {a b s d : Nat × Nat} (h : SumD a b s d) : (∀ t w, (binOp .add t (cV a) (cV b)).run Try.prog w = .ok (cV s) w) ∧ (∀ t w, (binOp .sub t (cV a) (cV b)).run Try.prog w = .ok (cV d) w) :=
  ⟨fun t w => run_complex_sum (P := Try.prog) w .add (Or.inl rfl) t .f32 _ _ _ _ _ _ (by simp [cSumBits, floatBits, FloatKind.format, h.1, h.2.1]),
   fun t w => run_complex_sum (P := Try.prog) w .sub (Or.inr rfl) t .f32 _ _ _ _ _ _ (by simp [cSumBits, floatBits, FloatKind.format, h.2.2.1, h.2.2.2])⟩

/-- What a round of the last loop reads and writes. -/
abbrev Outs (E ke B k l : Nat) (z : Value) (W : World) : Prop := W.cell? ⟨E, ke, none⟩ = some z ∧ W.cell? ⟨B, k, none⟩ = some (at0 W ⟨B, k, none⟩) ∧ W.cell? ⟨B, l, none⟩ = some (at0 W ⟨B, l, none⟩) ∧ W.frozen? ⟨B, k, none⟩ = false ∧ W.frozen? ⟨B, l, none⟩ = false ∧ E ≠ B
theorem Outs.drew {E ke B k l : Nat} {z : Value} {W : World} (h : Outs E ke B k l z W) : Outs E ke B k l z W.drew := h
theorem Outs.set {E ke B k l : Nat} {z : Value} {W : World} (x : Value) (j : Nat) (h : Outs E ke B k l z W) : Outs E ke B k l z (W.setCell ⟨B, j, none⟩ x) := by
  obtain ⟨h1, h2, h3, h4, h5, h6⟩ := h
  have key : ∀ i, W.cell? ⟨B, i, none⟩ = some (at0 W ⟨B, i, none⟩) → (W.setCell ⟨B, j, none⟩ x).cell? ⟨B, i, none⟩ = some (at0 (W.setCell ⟨B, j, none⟩ x) ⟨B, i, none⟩) := by
    intro i hi
    obtain ⟨v, hv⟩ := cell?_setCell_some (p := ⟨B, j, none⟩) (x := x) hi
    rw [hv]; simp [at0, hv]
  refine ⟨?_, key k h2, key l h3, by rw [World.frozen?_setCell]; exact h4, by rw [World.frozen?_setCell]; exact h5, h6⟩
  rw [World.cell?_setCell_other _ _ _ _ (by intro e; cases e; exact h6 rfl)]
  exact h1

@[go_sem] theorem run_store_complex (P : Program) (w : World) (a : Addr) (m : Mode) (k : FloatKind) (x y : Nat) : (store a (.complex k x y) m).run P w = stored P w a (.complex k x y) m := rfl

theorem frozen_of_block {w w' : World} {b o : Nat} (h : w'.heap[b]? = w.heap[b]?) : w'.frozen? ⟨b, o, none⟩ = w.frozen? ⟨b, o, none⟩ := by simp [World.frozen?, h]
theorem cell_of_block {w w' : World} {b o : Nat} (h : w'.heap[b]? = w.heap[b]?) : w'.cell? ⟨b, o, none⟩ = w.cell? ⟨b, o, none⟩ := by simp [World.cell?, h]

def Of2 (w : World) (r c : Nat) (s d : Nat × Nat) (e : Ending) (W' : World) : Prop :=
  ∃ v u, e = .returned v ∧ Row W' v 2 (fun j => if j = 0 then s else d) ∧ W'.heap[r]? = some (.map #[{ key := .int .i64 2, val := u, born := c }] (c + 1)) ∧ Row W' u 2 (fun j => fac2.getD j (0, 0)) ∧ But r w W'

theorem cell_lt {w : World} {b o : Nat} {v : Value} (h : w.cell? ⟨b, o, none⟩ = some v) : b < w.heap.size := by
  by_cases hb : b < w.heap.size
  · exact hb
  · simp [World.cell?, Array.getElem?_eq_none (Nat.le_of_not_lt hb)] at h

theorem But.set {w W : World} {r B : Nat} {j : Nat} (x : Value) (h : But r w W) (hB : w.heap.size ≤ B) : But r w (W.setCell ⟨B, j, none⟩ x) :=
  ⟨h.os, h.tape, h.output, Nat.le_trans h.size (by simp), fun k hk hr => (Below.heap_setCell _ _ _ k (by simp; omega)).trans (h.block k hk hr)⟩
theorem But.drew {w W : World} {r : Nat} (h : But r w W) : But r w W.drew := ⟨h.os, h.tape, h.output, h.size, h.block⟩

theorem done2 {w w3 : World} {r c B gu cu : Nat} {s d : Nat × Nat} (cb0 : w3.cell? ⟨B, 0, none⟩ = some (.complex .f32 0 0)) (cb1 : w3.cell? ⟨B, 1, none⟩ = some (.complex .f32 0 0))
    (hF : gu < w3.heap.size ∧ 2 ≤ cu ∧ ∀ (j : Nat), j < 2 → w3.cell? ⟨gu, j, none⟩ = some (cV (fac2.getD j (0, 0))))
    (hM : w3.heap[r]? = some (.map #[{ key := .int .i64 2, val := .slice (some ⟨gu, 0, none⟩) 2 cu, born := c }] (c + 1))) (hb : But r w w3) (hBr : B ≠ r) (hwB : w.heap.size ≤ B) :
    Of2 w r c s d (.returned (.slice (some ⟨B, 0, none⟩) 2 2)) ((w3.setCell ⟨B, 0, none⟩ (.complex .f32 s.1 s.2)).setCell ⟨B, 1, none⟩ (.complex .f32 d.1 d.2)).drew := by
  have hgB : gu ≠ B := by
    rintro rfl
    have h1 := hF.2.2 0 (by omega)
    rw [cb0] at h1
    simp [fac2] at h1
  have r0 : ((w3.setCell ⟨B, 0, none⟩ (.complex .f32 s.1 s.2)).setCell ⟨B, 1, none⟩ (.complex .f32 d.1 d.2)).cell? ⟨B, 0, none⟩ = some (.complex .f32 s.1 s.2) := by
    rw [World.cell?_setCell_other _ _ _ _ (by simp), World.cell?_setCell_same _ _ _ cb0]
  have r1 : ((w3.setCell ⟨B, 0, none⟩ (.complex .f32 s.1 s.2)).setCell ⟨B, 1, none⟩ (.complex .f32 d.1 d.2)).cell? ⟨B, 1, none⟩ = some (.complex .f32 d.1 d.2) :=
    World.cell?_setCell_same _ _ _ ((World.cell?_setCell_other _ _ _ _ (by simp)).trans cb1)
  refine ⟨_, _, rfl, ⟨B, 2, rfl, cell_lt r0, by omega, ?_⟩, ?_, ⟨gu, cu, rfl, by simpa using hF.1, hF.2.1, fun j hj => ?_⟩, ((hb.set _ hwB).set _ hwB).drew⟩
  · intro j hj
    have : j = 0 ∨ j = 1 := by omega
    rcases this with rfl | rfl
    · exact r0
    · exact r1
  · exact ((Below.heap_setCell _ _ _ r (by simp; omega)).trans (Below.heap_setCell _ _ _ r (by simp; omega))).trans hM
  · refine ((World.cell?_setCell_other _ _ _ _ ?_).trans (World.cell?_setCell_other _ _ _ _ ?_)).trans (hF.2.2 j hj) <;> simp <;> omega

set_option maxRecDepth 100000 in
set_option maxHeartbeats 4000000 in
theorem of_2 (w : World) (r c g cap : Nat) (zs : Nat → Nat × Nat) (t s d : Nat × Nat) (hr : w.heap[r]? = some (.map #[] c)) (hg : g < w.heap.size) (hc : ∀ j, j < 2 → w.cell? ⟨g, j, none⟩ = some (cV (zs j)))
    (hP : ∀ w, Is 49 #[cV (1065353216, 0), cV (zs 1)] w (cV t)) (hS : SumD (zs 0) t s d) :
    Calls Try.prog 68 #[.agg #[.map (some r)], .slice (some ⟨g, 0, none⟩) 2 cap] w (Of2 w r c s d) := by
  have hS0 := Held.start hr hg hc
  clear hr hc
  go_enter Try.func68, Try.ntmps68
  go_wp2_with fail
  go_region_held3 (fun w' => w'.cell? ⟨w.heap.size, 0, none⟩ = some (.map (some r)) ∧ Rest w r (.map #[] c) g 2 zs w')
    (first | assumption | exact Held.drew (by assumption) | exact Held.alloc2 _ _ (by assumption) | exact Held.keep (by assumption) (by assumption))
    (first
      | (go_at_call 82; refine (every_any _ _ _ 0 _).mono ?_; rintro e w' ⟨rfl, rfl⟩)
      | (go_at_call 81; refine (coll (W := w) (r := r) (o := .map #[] c) (g := g) (h := 1) (cap := cap) (fr := 0) (zs := zs) (by omega) (by omega) (by omega) (by assumption) (by simp <;> omega) (by simp <;> omega) (by simp [go_sem]) (by simp [go_sem])).mono ?_; rintro e w' ⟨v, rfl, hrow, hB⟩; obtain ⟨ge, ce, rfl, hge⟩ := hrow)
      | (go_at_call 68; refine (of_1 _ _ _ _).mono ?_; rintro e w1 ⟨rfl, hB1⟩; have hE : Row w1 (.slice (some ⟨ge, 0, none⟩) 1 ce) 1 (fun j => zs (0 + 2 * j)) := Row.below hB1 ⟨ge, ce, rfl, hge⟩))
  rename_i hH4
  have hH5 : Held2 w r (.map #[] c) g 2 zs (.slice (some ⟨ge, 0, none⟩) 1 ce) 1 (fun j => zs (0 + 2 * j)) w1 := ⟨hH4.1, hH4.2, hE⟩
  clear hH4 hE
  go_wp2_with fail
  go_region_held3 (fun w' => w'.cell? ⟨w.heap.size, 0, none⟩ = some (.map (some r)) ∧ Rest w r (.map #[] c) g 2 zs w' ∧ Row w' (.slice (some ⟨ge, 0, none⟩) 1 ce) 1 (fun j => zs (0 + 2 * j)))
    (first | assumption | exact Held2.drew (by assumption) | exact Held2.alloc2 _ _ (by assumption) | exact Held2.keep (by assumption) (by assumption))
    (first
      | (go_at_call 82; refine (every_any _ _ _ 1 _).mono ?_; rintro e w' ⟨rfl, rfl⟩)
      | (go_at_call 81; refine (coll2 (W := w) (r := r) (o := .map #[] c) (g := g) (h := 1) (cap := cap) (fr := 1) (zs := zs) (u := .slice (some ⟨ge, 0, none⟩) 1 ce) (k := 1) (ys := fun j => zs (0 + 2 * j)) (by omega) (by omega) (by omega) (by assumption) (by simp <;> omega) (by simp <;> omega) (by simp [go_sem]) (by simp [go_sem])).mono ?_; rintro e w' ⟨v, rfl, hrow, hB⟩; obtain ⟨go, co, rfl, hgo⟩ := hrow)
      | (go_at_call 68; refine (of_1 _ _ _ _).mono ?_; rintro e w2 ⟨rfl, hB2⟩; have hO : Row w2 (.slice (some ⟨go, 0, none⟩) 1 co) 1 (fun j => zs (1 + 2 * j)) := Row.below hB2 ⟨go, co, rfl, hgo⟩))
  rename_i hH6
  obtain ⟨hb6, hR6, hE6⟩ := hH6
  have hB7 : Below w2.heap.size w2 (w2.alloc (.cells #[.complex .f32 0 0, .complex .f32 0 0] 83)) := (Below.refl _ _).alloc (Nat.le_refl _) _
  have hb7 := (Held.keep hB7 ⟨hb6, hR6⟩).1
  have hm7 := (Held.keep hB7 ⟨hb6, hR6⟩).2.2.2.1
  go_wp2_with (go_at_call 83; refine (kept_2 _ r c hm7).mono ?_; rintro e w3 ⟨u, rfl, hu, hmu, hb8⟩; obtain ⟨gu, cu, rfl, hgu⟩ := hu)
  -- at the loop
  have hrW : r < w.heap.size := hR6.2.2.2.2.1
  have hszw : w.heap.size + 1 ≤ w2.heap.size := hR6.2.1
  have hgE : ge < w2.heap.size := by obtain ⟨_, _, e, h, _⟩ := hE6; cases e; exact h
  have hm3 : w3.heap.size ≥ w2.heap.size + 1 := by have := hb8.size; simp at this; omega
  have ce0 : w3.cell? ⟨ge, 0, none⟩ = some (.complex .f32 (zs 0).1 (zs 0).2) := by
    obtain ⟨_, _, e, h, _, hz⟩ := Row.but hm7 (by omega) hb8 (Row.below hB7 hE6); cases e; exact hz 0 (by omega)
  have co0 : w3.cell? ⟨go, 0, none⟩ = some (.complex .f32 (zs 1).1 (zs 1).2) := by
    obtain ⟨_, _, e, h, _, hz⟩ := Row.but hm7 (by omega) hb8 (Row.below hB7 hO); cases e; exact hz 0 (by omega)
  have cu0 : w3.cell? ⟨gu, 0, none⟩ = some (.complex .f32 1065353216 0) := hgu.2.2 0 (by omega)
  have hblk : w3.heap[w2.heap.size]? = some (.cells #[.complex .f32 0 0, .complex .f32 0 0] 83) := (hb8.block w2.heap.size (by simp) (by simp; omega)).trans (World.alloc_heap_new w2 _)
  have cb0 : w3.cell? ⟨w2.heap.size, 0, none⟩ = some (.complex .f32 0 0) := by simp [World.cell?, hblk]
  have cb1 : w3.cell? ⟨w2.heap.size, 1, none⟩ = some (.complex .f32 0 0) := by simp [World.cell?, hblk]
  have fb0 : w3.frozen? ⟨w2.heap.size, 0, none⟩ = false := by simp [World.frozen?, hblk]
  have fb1 : w3.frozen? ⟨w2.heap.size, 1, none⟩ = false := by simp [World.frozen?, hblk]
  have hbut : But r w w3 := ((hR6.1.trans (But.of_below hB7)).trans hb8)
  clear hb8 hblk
  have HF : Hid (gu < w3.heap.size ∧ 2 ≤ cu ∧ ∀ (j : Nat), j < 2 → w3.cell? ⟨gu, j, none⟩ = some (cV (fac2.getD j (0, 0)))) := Lib.hid hgu
  have HM := Lib.hid hmu
  clear hgu hmu hb7 hm7 hB7 hE6 hR6 hb6 hO hB2 hgo hB hH5 hB1 hge hS0
  have hP' : ∀ w, Is 49 #[.complex .f32 1065353216 0, .complex .f32 (zs 1).1 (zs 1).2] w (.complex .f32 t.1 t.2) := hP
  have e1 : ∀ p w, (binOp .add p (.complex .f32 (zs 0).1 (zs 0).2) (.complex .f32 t.1 t.2)).run Try.prog w = .ok (.complex .f32 s.1 s.2) w := hS.ops.1
  have e2 : ∀ p w, (binOp .sub p (.complex .f32 (zs 0).1 (zs 0).2) (.complex .f32 t.1 t.2)).run Try.prog w = .ok (.complex .f32 d.1 d.2) w := hS.ops.2
  clear hP hS
  go_loopw [36] (fun i W => ∃ k : Nat, i = .int .i64 k ∧ ((k = 0 ∧ W = w3) ∨ (k = 1 ∧ Of2 w r c s d (.returned (.slice (some ⟨w2.heap.size, 0, none⟩) 2 2)) W))) (fun i _ => 1 - (intOf i).toNat)
  case atStart => exact ⟨0, rfl, .inl ⟨rfl, rfl⟩⟩
  case round =>
    obtain ⟨k, rfl, ⟨rfl, rfl⟩ | ⟨rfl, hdone⟩⟩ := hrel
    · go_wp2_with (go_at_call 49; refine (hP' _).mono ?_; rintro e w' ⟨rfl, rfl⟩)
      have hO : Outs ge 0 w2.heap.size 0 1 (.complex .f32 (zs 0).1 (zs 0).2) wr := ⟨ce0, by rw [cb0]; simp [at0, cb0], by rw [cb1]; simp [at0, cb1], fb0, fb1, by omega⟩
      have hD := Lib.hid (done2 (s := s) (d := d) cb0 cb1 HF.out HM.out hbut (by omega) (by omega))
      clear ce0 cb0 cb1 fb0 fb1 co0 cu0 hP' HF HM
      obtain ⟨o1, o2, o3, o4, o5, o6⟩ := hO
      go_region
      go_wp2
      go_roundw
      case rel => exact ⟨1, by simp, .inr ⟨rfl, hD.out⟩⟩
      case measure => simp [intOf]
    · go_wp2
      go_ret
      exact hdone

end Go.Proofs.Ytmhfdjognikilaa
