/- Layer 16 (numeric): a transform of 4 points. -/
import Derived.Test.YtmhfdjognikilaaFloF
namespace Go.Proofs.Ytmhfdjognikilaa
open Go.RowKit Go.Shelf

/-- What lies while halves are collected and transformed: of the map nothing is said. -/
def Rest0 (W : World) (r g n : Nat) (zs : Nat → Nat × Nat) (w' : World) : Prop :=
  But r W w' ∧ W.heap.size + 1 ≤ w'.heap.size ∧ (∀ j, j < n → w'.cell? ⟨g, j, none⟩ = some (cV (zs j))) ∧ r < W.heap.size ∧ g < W.heap.size ∧ g ≠ r
abbrev Held0 (W : World) (r g n : Nat) (zs : Nat → Nat × Nat) (w' : World) : Prop := w'.cell? ⟨W.heap.size, 0, none⟩ = some (.map (some r)) ∧ Rest0 W r g n zs w'
theorem Held0.but {W : World} {r g n : Nat} {zs : Nat → Nat × Nat} {w w' : World} (hB : But r w w') (h : Held0 W r g n zs w) : Held0 W r g n zs w' := by
  obtain ⟨h1, hbt, hsz, hc, hrl, hgl, hne⟩ := h
  have := hB.size
  exact ⟨hB.cell h1 (by simp; omega), hbt.trans hB, by omega, fun j hj => hB.cell (hc j hj) (by simpa using hne), hrl, hgl, hne⟩
theorem Held0.drew {W : World} {r g n : Nat} {zs : Nat → Nat × Nat} {w : World} (h : Held0 W r g n zs w) : Held0 W r g n zs w.drew := h.but (But.of_below (Below.refl _ _).drew)
theorem Held0.alloc2 {W : World} {r g n : Nat} {zs : Nat → Nat × Nat} {w : World} (o1 o2 : Obj) (h : Held0 W r g n zs w) : Held0 W r g n zs ((w.alloc o1).alloc o2) :=
  h.but (But.of_below (((Below.refl _ _).alloc (Nat.le_refl _) _).alloc (by simp) _))
theorem Held0.keep {W : World} {r g n : Nat} {zs : Nat → Nat × Nat} {w w' : World} (hB : Below w.heap.size w w') (h : Held0 W r g n zs w) : Held0 W r g n zs w' := h.but (But.of_below hB)
theorem Held.zero {W : World} {r : Nat} {o : Obj} {g n : Nat} {zs : Nat → Nat × Nat} {w : World} (hne : g ≠ r) (h : Held W r o g n zs w) : Held0 W r g n zs w :=
  ⟨h.1, h.2.1, h.2.2.1, h.2.2.2.2.1, h.2.2.2.2.2.1, h.2.2.2.2.2.2, hne⟩
theorem coll0 {W X : World} {r g h cap fr Bf Bl : Nat} {zs : Nat → Nat × Nat} (hfr : fr ≤ 1) (h1 : 1 ≤ h) (hh : h ≤ 100) (hH : Held0 W r g (2 * h) zs X) (hf : Bf < X.heap.size) (hl : Bl < X.heap.size)
    (hBf : X.cell? ⟨Bf, 0, none⟩ = some (.int .i64 fr)) (hBl : X.cell? ⟨Bl, 0, none⟩ = some (.slice (some ⟨g, 0, none⟩) (2 * h : Nat) cap)) :
    Calls Try.prog 81 #[.func (.func 88) #[] #[.pointer (some ⟨Bf, 0, none⟩), .pointer (some ⟨Bl, 0, none⟩)]] X fun e W' => ∃ v, e = .returned v ∧ Row W' v h (fun j => zs (fr + 2 * j)) ∧ Below X.heap.size X W' :=
  collect_any Bf Bl g h cap fr zs hfr h1 hh X (by have := hH.2.1.size; have := hH.2.2.2.2.2.1; omega) hl hf hBf hBl hH.2.2.2.1

abbrev Held3 (W : World) (r g n : Nat) (zs : Nat → Nat × Nat) (v : Value) (k : Nat) (ys : Nat → Nat × Nat) (w' : World) : Prop := w'.cell? ⟨W.heap.size, 0, none⟩ = some (.map (some r)) ∧ Rest0 W r g n zs w' ∧ Row w' v k ys
theorem Held3.keep {W : World} {r g n : Nat} {zs : Nat → Nat × Nat} {v : Value} {k : Nat} {ys : Nat → Nat × Nat} {w w' : World} (hB : Below w.heap.size w w') (h : Held3 W r g n zs v k ys w) : Held3 W r g n zs v k ys w' :=
  ⟨(Held0.keep hB ⟨h.1, h.2.1⟩).1, (Held0.keep hB ⟨h.1, h.2.1⟩).2, h.2.2.below hB⟩
theorem Held3.drew {W : World} {r g n : Nat} {zs : Nat → Nat × Nat} {v : Value} {k : Nat} {ys : Nat → Nat × Nat} {w : World} (h : Held3 W r g n zs v k ys w) : Held3 W r g n zs v k ys w.drew := h.keep (Below.refl _ _).drew
theorem Held3.alloc2 {W : World} {r g n : Nat} {zs : Nat → Nat × Nat} {v : Value} {k : Nat} {ys : Nat → Nat × Nat} {w : World} (o1 o2 : Obj) (h : Held3 W r g n zs v k ys w) : Held3 W r g n zs v k ys ((w.alloc o1).alloc o2) :=
  h.keep (((Below.refl _ _).alloc (Nat.le_refl _) _).alloc (by simp) _)
theorem Held3.but {W : World} {r g n c : Nat} {es : Array MapEntry} {zs : Nat → Nat × Nat} {v : Value} {k : Nat} {ys : Nat → Nat × Nat} {w w' : World} (hm : w.heap[r]? = some (.map es c)) (hk : 1 ≤ k) (hB : But r w w') (h : Held3 W r g n zs v k ys w) : Held3 W r g n zs v k ys w' :=
  ⟨(Held0.but hB ⟨h.1, h.2.1⟩).1, (Held0.but hB ⟨h.1, h.2.1⟩).2, h.2.2.but hm hk hB⟩
theorem coll3 {W X : World} {r g h cap fr Bf Bl k : Nat} {zs ys : Nat → Nat × Nat} {u : Value} (hfr : fr ≤ 1) (h1 : 1 ≤ h) (hh : h ≤ 100) (hH : Held3 W r g (2 * h) zs u k ys X) (hf : Bf < X.heap.size) (hl : Bl < X.heap.size)
    (hBf : X.cell? ⟨Bf, 0, none⟩ = some (.int .i64 fr)) (hBl : X.cell? ⟨Bl, 0, none⟩ = some (.slice (some ⟨g, 0, none⟩) (2 * h : Nat) cap)) :
    Calls Try.prog 81 #[.func (.func 88) #[] #[.pointer (some ⟨Bf, 0, none⟩), .pointer (some ⟨Bl, 0, none⟩)]] X fun e W' => ∃ v, e = .returned v ∧ Row W' v h (fun j => zs (fr + 2 * j)) ∧ Below X.heap.size X W' :=
  coll0 hfr h1 hh ⟨hH.1, hH.2.1⟩ hf hl hBf hBl

/-- What a list of 4 values comes to. -/
structure Four (zs ys4 : Nat → Nat × Nat) (sE dE sO dO : Nat × Nat) : Prop where
  even : ∃ t, (∀ w, Is 49 #[cV (1065353216, 0), cV (zs 2)] w (cV t)) ∧ SumD (zs 0) t sE dE
  odd : ∃ t, (∀ w, Is 49 #[cV (1065353216, 0), cV (zs 3)] w (cV t)) ∧ SumD (zs 1) t sO dO
  first : ∃ t, (∀ w, Is 49 #[cV (1065353216, 0), cV sO] w (cV t)) ∧ SumD sE t (ys4 0) (ys4 2)
  second : ∃ t, (∀ w, Is 49 #[cV (0, 3212836864), cV dO] w (cV t)) ∧ SumD dE t (ys4 1) (ys4 3)

def Of4 (w : World) (r : Nat) (ys4 : Nat → Nat × Nat) (e : Ending) (W' : World) : Prop := ∃ v, e = .returned v ∧ Row W' v 4 ys4 ∧ But r w W'

/-- What the last loop of a transform of 4 points reads and writes. -/
structure Lay (W : World) (gE gO gf B : Nat) (sE dE sO dO : Nat × Nat) (o : Nat → Value) : Prop where
  e0 : W.cell? ⟨gE, 0, none⟩ = some (.complex .f32 sE.1 sE.2)
  e1 : W.cell? ⟨gE, 1, none⟩ = some (.complex .f32 dE.1 dE.2)
  o0 : W.cell? ⟨gO, 0, none⟩ = some (.complex .f32 sO.1 sO.2)
  o1 : W.cell? ⟨gO, 1, none⟩ = some (.complex .f32 dO.1 dO.2)
  f0 : W.cell? ⟨gf, 0, none⟩ = some (.complex .f32 1065353216 0)
  f1 : W.cell? ⟨gf, 1, none⟩ = some (.complex .f32 0 3212836864)
  out : ∀ j, j < 4 → W.cell? ⟨B, j, none⟩ = some (o j)
  fr : ∀ j, j < 4 → W.frozen? ⟨B, j, none⟩ = false
  nE : gE ≠ B
  nO : gO ≠ B
  nf : gf ≠ B

theorem Lay.set {W : World} {gE gO gf B : Nat} {sE dE sO dO : Nat × Nat} {o : Nat → Value} (j : Nat) (x : Value) (hj : j < 4) (h : Lay W gE gO gf B sE dE sO dO o) : Lay (W.setCell ⟨B, j, none⟩ x) gE gO gf B sE dE sO dO (fun i => if i = j then x else o i) := by
  have oth : ∀ (b k : Nat), b ≠ B → (W.setCell ⟨B, j, none⟩ x).cell? ⟨b, k, none⟩ = W.cell? ⟨b, k, none⟩ := fun b k hb => World.cell?_setCell_other _ _ _ _ (by intro e; cases e; exact hb rfl)
  refine ⟨(oth _ _ h.nE).trans h.e0, (oth _ _ h.nE).trans h.e1, (oth _ _ h.nO).trans h.o0, (oth _ _ h.nO).trans h.o1, (oth _ _ h.nf).trans h.f0, (oth _ _ h.nf).trans h.f1, ?_, ?_, h.nE, h.nO, h.nf⟩
  · intro i hi
    by_cases e : i = j
    · subst e; rw [if_pos rfl]; exact World.cell?_setCell_same _ _ _ (h.out _ hi)
    · rw [if_neg e]
      exact (World.cell?_setCell_other _ _ _ _ (by intro e'; cases e'; exact e rfl)).trans (h.out i hi)
  · intro i hi
    rw [World.frozen?_setCell]; exact h.fr i hi
theorem Lay.drew {W : World} {gE gO gf B : Nat} {sE dE sO dO : Nat × Nat} {o : Nat → Value} (h : Lay W gE gO gf B sE dE sO dO o) : Lay W.drew gE gO gf B sE dE sO dO o := ⟨h.e0, h.e1, h.o0, h.o1, h.f0, h.f1, h.out, h.fr, h.nE, h.nO, h.nf⟩

set_option maxRecDepth 100000 in
set_option maxHeartbeats 4000000 in
theorem of_4 (w : World) (r c g cap : Nat) (zs ys4 : Nat → Nat × Nat) (sE dE sO dO : Nat × Nat) (hr : w.heap[r]? = some (.map #[] c)) (hg : g < w.heap.size) (hc : ∀ j, j < 4 → w.cell? ⟨g, j, none⟩ = some (cV (zs j))) (hF : Four zs ys4 sE dE sO dO) :
    Calls Try.prog 68 #[.agg #[.map (some r)], .slice (some ⟨g, 0, none⟩) 4 cap] w (Of4 w r ys4) := by
  have hne : g ≠ r := by
    rintro rfl
    have := hc 0 (by omega)
    simp [World.cell?, hr] at this
  have hS0 := Held.start hr hg hc
  have hZ0 := hS0.zero hne
  obtain ⟨tE, hPE, hSE⟩ := hF.even
  obtain ⟨tO, hPO, hSO⟩ := hF.odd
  clear hr hc
  go_enter Try.func68, Try.ntmps68
  go_wp2_with fail
  go_region_held3 (fun w' => w'.cell? ⟨w.heap.size, 0, none⟩ = some (.map (some r)) ∧ Rest0 w r g 4 zs w')
    (first | assumption | exact Held0.drew (by assumption) | exact Held0.alloc2 _ _ (by assumption) | exact Held0.keep (by assumption) (by assumption) | exact Held0.but (by assumption) (by assumption))
    (first
      | (go_at_call 82; refine (every_any _ _ _ 0 _).mono ?_; rintro e w' ⟨rfl, rfl⟩)
      | (go_at_call 81; refine (coll0 (W := w) (r := r) (g := g) (h := 2) (cap := cap) (fr := 0) (zs := zs) (by omega) (by omega) (by omega) (by assumption) (by simp <;> omega) (by simp <;> omega) (by simp [go_sem]) (by simp [go_sem])).mono ?_; rintro e w' ⟨v, rfl, hrow, hB⟩; obtain ⟨ge, ce, rfl, hge⟩ := hrow; have hM := (Held.keep hB (Held.drew (Held.alloc2 _ _ hS0))).2.2.2.1)
      | (go_at_call 68; refine (of_2 _ r c ge ce (fun j => zs (0 + 2 * j)) tE sE dE hM hge.1 hge.2.2 hPE hSE).mono ?_; rintro e w1 ⟨vE, u, rfl, hE, hM1, hU1, hb1⟩; obtain ⟨gE, cE, rfl, hgE⟩ := hE; obtain ⟨gu, cu, rfl, hgu⟩ := hU1))
  rename_i hH4
  have hr1 : r < w1.heap.size := (Array.getElem?_eq_some_iff.1 hM1).1
  have hU1 : Row w1 (.slice (some ⟨gu, 0, none⟩) 2 cu) 2 (fun j => fac2.getD j (0, 0)) := ⟨gu, cu, rfl, hgu⟩
  have hH5 : Held3 w r g 4 zs (.slice (some ⟨gE, 0, none⟩) 2 cE) 2 (fun j => if j = 0 then sE else dE) w1 := ⟨hH4.1, hH4.2, gE, cE, rfl, hgE⟩
  clear hH4 hgE hgu hM hge hB hb1 hS0 hZ0 hPE hSE
  have HM := Lib.hid hM1
  clear hM1
  go_wp2_with fail
  go_region_held3 (fun w' => w'.cell? ⟨w.heap.size, 0, none⟩ = some (.map (some r)) ∧ Rest0 w r g 4 zs w' ∧ Row w' (.slice (some ⟨gE, 0, none⟩) 2 cE) 2 (fun j => if j = 0 then sE else dE))
    (first | assumption | exact Held3.drew (by assumption) | exact Held3.alloc2 _ _ (by assumption) | exact Held3.keep (by assumption) (by assumption) | exact Held3.but hM5 (by omega) hb2 (by assumption))
    (first
      | (go_at_call 82; refine (every_any _ _ _ 1 _).mono ?_; rintro e w' ⟨rfl, rfl⟩)
      | (go_at_call 81; refine (coll3 (W := w) (r := r) (g := g) (h := 2) (cap := cap) (fr := 1) (zs := zs) (u := .slice (some ⟨gE, 0, none⟩) 2 cE) (k := 2) (ys := fun j => if j = 0 then sE else dE) (by omega) (by omega) (by omega) (by assumption) (by simp <;> omega) (by simp <;> omega) (by simp [go_sem]) (by simp [go_sem])).mono ?_; rintro e w' ⟨v, rfl, hrow, hB⟩; obtain ⟨go, co, rfl, hgo⟩ := hrow; have hBB := ((((Below.refl w1.heap.size w1).alloc (Nat.le_refl _) _).alloc (by simp) _).drew.trans (hB.mono (by simp <;> omega))); have hM5 := (hBB.block r hr1).trans HM.out; have hU5 := Row.below hBB hU1)
      | (go_at_call 68; refine (of_2b _ r (c + 1) go co c gu cu (fun j => zs (1 + 2 * j)) tO sO dO hM5 hU5 hgo.1 hgo.2.2 hPO hSO).mono ?_; rintro e w2 ⟨vO, rfl, hO, hM2, hU2, hb2⟩; obtain ⟨gO, cO, rfl, hgO⟩ := hO))
  rename_i hH6
  obtain ⟨hb6, hR6, hE6⟩ := hH6
  have hB7 : Below w2.heap.size w2 (w2.alloc (.cells #[.complex .f32 0 0, .complex .f32 0 0, .complex .f32 0 0, .complex .f32 0 0] 83)) := (Below.refl _ _).alloc (Nat.le_refl _) _
  have hr2 : r < w2.heap.size := (Array.getElem?_eq_some_iff.1 hM2).1
  have hb7 := (Held0.keep hB7 ⟨hb6, hR6⟩).1
  have hm7 := (hB7.block r hr2).trans hM2
  clear hM5 hU5 hgo hU1 hB hBB hM2 HM hH5 hU2 hb2
  go_wp2_with (go_at_call 83; refine (kept_4 _ r (c + 1) c _ hm7).mono ?_; rintro e w3 ⟨v, rfl, hv, hb8⟩; obtain ⟨gf, cf, rfl, hgf⟩ := hv; have hcf : 2 ≤ cf := Nat.le_trans (by omega) hgf.2.1)
  -- at the loop
  obtain ⟨hbW, hszw, -, hrW, -, -⟩ := hR6
  have hm3 : w3.heap.size ≥ w2.heap.size + 1 := by have := hb8.size; simp at this; omega
  have hblk : w3.heap[w2.heap.size]? = some (.cells #[.complex .f32 0 0, .complex .f32 0 0, .complex .f32 0 0, .complex .f32 0 0] 83) := (hb8.block w2.heap.size (by simp) (by simp; omega)).trans (World.alloc_heap_new w2 _)
  have hgE : gE < w2.heap.size := by obtain ⟨_, _, e, h, _⟩ := hE6; cases e; exact h
  have hE7 : ∀ j, j < 2 → w3.cell? ⟨gE, j, none⟩ = some (cV (if j = 0 then sE else dE)) := by
    obtain ⟨_, _, e, h, _, hz⟩ := Row.but hm7 (by omega) hb8 (Row.below hB7 hE6); cases e; exact hz
  have hO6 : Row w2 (.slice (some ⟨gO, 0, none⟩) 2 cO) 2 (fun j => if j = 0 then sO else dO) := ⟨gO, cO, rfl, hgO⟩
  have hO7 : ∀ j, j < 2 → w3.cell? ⟨gO, j, none⟩ = some (cV (if j = 0 then sO else dO)) := by
    obtain ⟨_, _, e, h, _, hz⟩ := Row.but hm7 (by omega) hb8 (Row.below hB7 hO6); cases e; exact hz
  have hL3 : Lay w3 gE gO gf w2.heap.size sE dE sO dO (fun _ => .complex .f32 0 0) := by
    refine ⟨hE7 0 (by omega), hE7 1 (by omega), hO7 0 (by omega), hO7 1 (by omega), hgf.2.2 0 (by omega), hgf.2.2 1 (by omega), ?_, ?_, by omega, by have := hgO.1; omega, ?_⟩
    · intro j hj
      have : j = 0 ∨ j = 1 ∨ j = 2 ∨ j = 3 := by omega
      rcases this with rfl | rfl | rfl | rfl <;> simp [World.cell?, hblk]
    · intro j hj
      have : j = 0 ∨ j = 1 ∨ j = 2 ∨ j = 3 := by omega
      rcases this with rfl | rfl | rfl | rfl <;> simp [World.frozen?, hblk]
    · rintro rfl
      have h1 := hgf.2.2 0 (by omega)
      simp [World.cell?, hblk, fac] at h1
  have hbut : But r w w3 := (hbW.trans (But.of_below hB7)).trans hb8
  obtain ⟨B, hB⟩ : ∃ B, w2.heap.size = B := ⟨_, rfl⟩
  obtain ⟨t0, hP0, hS1⟩ := hF.first
  obtain ⟨t1, hP1, hS2⟩ := hF.second
  have hP0' : ∀ w, Is 49 #[.complex .f32 1065353216 0, .complex .f32 sO.1 sO.2] w (.complex .f32 t0.1 t0.2) := hP0
  have hP1' : ∀ w, Is 49 #[.complex .f32 0 3212836864, .complex .f32 dO.1 dO.2] w (.complex .f32 t1.1 t1.2) := hP1
  have e1 : ∀ p w, (binOp .add p (.complex .f32 sE.1 sE.2) (.complex .f32 t0.1 t0.2)).run Try.prog w = .ok (.complex .f32 (ys4 0).1 (ys4 0).2) w := hS1.ops.1
  have e2 : ∀ p w, (binOp .sub p (.complex .f32 sE.1 sE.2) (.complex .f32 t0.1 t0.2)).run Try.prog w = .ok (.complex .f32 (ys4 2).1 (ys4 2).2) w := hS1.ops.2
  have e3 : ∀ p w, (binOp .add p (.complex .f32 dE.1 dE.2) (.complex .f32 t1.1 t1.2)).run Try.prog w = .ok (.complex .f32 (ys4 1).1 (ys4 1).2) w := hS2.ops.1
  have e4 : ∀ p w, (binOp .sub p (.complex .f32 dE.1 dE.2) (.complex .f32 t1.1 t1.2)).run Try.prog w = .ok (.complex .f32 (ys4 3).1 (ys4 3).2) w := hS2.ops.2
  rw [hB] at hL3
  simp only [hB]
  obtain ⟨W1, hW1⟩ : ∃ W1, W1 = ((w3.setCell ⟨B, 0, none⟩ (.complex .f32 (ys4 0).1 (ys4 0).2)).setCell ⟨B, 2, none⟩ (.complex .f32 (ys4 2).1 (ys4 2).2)).drew := ⟨_, rfl⟩
  have hL4 := ((hL3.set 0 (.complex .f32 (ys4 0).1 (ys4 0).2) (by omega)).set 2 (.complex .f32 (ys4 2).1 (ys4 2).2) (by omega)).drew
  rw [← hW1] at hL4
  have hb9 : But r w W1 := by rw [hW1]; exact ((hbut.set _ (by omega)).set _ (by omega)).drew
  obtain ⟨W2, hW2⟩ : ∃ W2, W2 = ((W1.setCell ⟨B, 1, none⟩ (.complex .f32 (ys4 1).1 (ys4 1).2)).setCell ⟨B, 3, none⟩ (.complex .f32 (ys4 3).1 (ys4 3).2)).drew := ⟨_, rfl⟩
  have hL5 := ((hL4.set 1 (.complex .f32 (ys4 1).1 (ys4 1).2) (by omega)).set 3 (.complex .f32 (ys4 3).1 (ys4 3).2) (by omega)).drew
  rw [← hW2] at hL5
  have hb10 : But r w W2 := by rw [hW2]; exact ((hb9.set _ (by omega)).set _ (by omega)).drew
  have hD : Of4 w r ys4 (.returned (.slice (some ⟨B, 0, none⟩) 4 4)) W2 := by
    refine ⟨_, rfl, ⟨B, 4, rfl, cell_lt (hL5.out 0 (by omega)), by omega, ?_⟩, hb10⟩
    intro j hj
    rw [hL5.out j hj]
    have : j = 0 ∨ j = 1 ∨ j = 2 ∨ j = 3 := by omega
    rcases this with rfl | rfl | rfl | rfl <;> rfl
  have HW1 := Lib.hid hW1
  have HW2 := Lib.hid hW2
  have HD := Lib.hid hD
  have HL3 := Lib.hid hL3
  have HL4 := Lib.hid hL4
  clear hW1 hW2 hD hL3 hL4 hL5 hb9 hb10 hbut hP0 hP1 hS1 hS2 hF hb8 hgf hE7 hO6 hO7 hblk hm7 hb7 hB7 hE6 hgO hb6 hbW hPO hSO hB
  go_loopw [36] (fun i W => ∃ k : Nat, i = .int .i64 k ∧ ((k = 0 ∧ W = w3) ∨ (k = 1 ∧ W = W1) ∨ (k = 2 ∧ W = W2))) (fun i _ => 2 - (intOf i).toNat)
  case atStart => exact ⟨0, rfl, .inl ⟨rfl, rfl⟩⟩
  case round =>
    obtain ⟨k, rfl, ⟨rfl, rfl⟩ | ⟨rfl, rfl⟩ | ⟨rfl, rfl⟩⟩ := hrel
    · have c1 := HL3.out.f0
      have c2 := HL3.out.o0
      have c3 := HL3.out.e0
      have c4 := HL3.out.out 0 (by omega)
      have c5 := HL3.out.out 2 (by omega)
      have c6 := HL3.out.fr 0 (by omega)
      have c7 := HL3.out.fr 2 (by omega)
      have c8 := HL3.out.nE
      go_wp2_with (go_at_call 49; refine (hP0' _).mono ?_; rintro e w' ⟨rfl, rfl⟩)
      clear c1 c2
      go_region
      go_wp2
      go_roundw
      case rel => exact ⟨1, by simp, .inr (.inl ⟨rfl, HW1.out.symm⟩)⟩
      case measure => simp [intOf]
    · have c1 := HL4.out.f1
      have c2 := HL4.out.o1
      have c3 := HL4.out.e1
      have c4 := HL4.out.out 1 (by omega)
      have c5 := HL4.out.out 3 (by omega)
      have c6 := HL4.out.fr 1 (by omega)
      have c7 := HL4.out.fr 3 (by omega)
      have c8 := HL4.out.nE
      go_wp2_with (go_at_call 49; refine (hP1' _).mono ?_; rintro e w' ⟨rfl, rfl⟩)
      clear c1 c2
      go_region
      go_wp2
      go_roundw
      case rel => exact ⟨2, by simp, .inr (.inr ⟨rfl, HW2.out.symm⟩)⟩
      case measure => simp [intOf]
    · go_wp2
      go_ret
      exact HD.out

end Go.Proofs.Ytmhfdjognikilaa
