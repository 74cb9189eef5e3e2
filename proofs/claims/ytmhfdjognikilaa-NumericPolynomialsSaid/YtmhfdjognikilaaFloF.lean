/- Layer 16 (numeric): a transform of 2 points, where the factors are kept already. -/
import Derived.Test.YtmhfdjognikilaaFloE
namespace Go.Proofs.Ytmhfdjognikilaa
open Go.RowKit Go.Shelf

def Of2b (w : World) (r c b0 gu cu : Nat) (s d : Nat × Nat) (e : Ending) (W' : World) : Prop :=
  ∃ v, e = .returned v ∧ Row W' v 2 (fun j => if j = 0 then s else d) ∧ W'.heap[r]? = some (.map #[{ key := .int .i64 2, val := .slice (some ⟨gu, 0, none⟩) 2 cu, born := b0 }] c) ∧ Row W' (.slice (some ⟨gu, 0, none⟩) 2 cu) 2 (fun j => fac2.getD j (0, 0)) ∧ But r w W'

theorem done2b {w w3 : World} {r c B gu cu b0 : Nat} {s d : Nat × Nat} (cb0 : w3.cell? ⟨B, 0, none⟩ = some (.complex .f32 0 0)) (cb1 : w3.cell? ⟨B, 1, none⟩ = some (.complex .f32 0 0))
    (hF : gu < w3.heap.size ∧ 2 ≤ cu ∧ ∀ (j : Nat), j < 2 → w3.cell? ⟨gu, j, none⟩ = some (cV (fac2.getD j (0, 0))))
    (hM : w3.heap[r]? = some (.map #[{ key := .int .i64 2, val := .slice (some ⟨gu, 0, none⟩) 2 cu, born := b0 }] c)) (hb : But r w w3) (hBr : B ≠ r) (hwB : w.heap.size ≤ B) :
    Of2b w r c b0 gu cu s d (.returned (.slice (some ⟨B, 0, none⟩) 2 2)) ((w3.setCell ⟨B, 0, none⟩ (.complex .f32 s.1 s.2)).setCell ⟨B, 1, none⟩ (.complex .f32 d.1 d.2)).drew := by
  have hgB : gu ≠ B := by
    rintro rfl
    have h1 := hF.2.2 0 (by omega)
    rw [cb0] at h1
    simp [fac2] at h1
  have r0 : ((w3.setCell ⟨B, 0, none⟩ (.complex .f32 s.1 s.2)).setCell ⟨B, 1, none⟩ (.complex .f32 d.1 d.2)).cell? ⟨B, 0, none⟩ = some (.complex .f32 s.1 s.2) := by
    rw [World.cell?_setCell_other _ _ _ _ (by simp), World.cell?_setCell_same _ _ _ cb0]
  have r1 : ((w3.setCell ⟨B, 0, none⟩ (.complex .f32 s.1 s.2)).setCell ⟨B, 1, none⟩ (.complex .f32 d.1 d.2)).cell? ⟨B, 1, none⟩ = some (.complex .f32 d.1 d.2) :=
    World.cell?_setCell_same _ _ _ ((World.cell?_setCell_other _ _ _ _ (by simp)).trans cb1)
  refine ⟨_, rfl, ⟨B, 2, rfl, cell_lt r0, by omega, ?_⟩, ?_, ⟨gu, cu, rfl, by simpa using hF.1, hF.2.1, fun j hj => ?_⟩, ((hb.set _ hwB).set _ hwB).drew⟩
  · intro j hj
    have : j = 0 ∨ j = 1 := by omega
    rcases this with rfl | rfl
    · exact r0
    · exact r1
  · exact ((Below.heap_setCell _ _ _ r (by simp; omega)).trans (Below.heap_setCell _ _ _ r (by simp; omega))).trans hM
  · refine ((World.cell?_setCell_other _ _ _ _ ?_).trans (World.cell?_setCell_other _ _ _ _ ?_)).trans (hF.2.2 j hj) <;> simp <;> omega

set_option maxRecDepth 100000 in
set_option maxHeartbeats 4000000 in
theorem of_2b (w : World) (r c g cap b0 gu cu : Nat) (zs : Nat → Nat × Nat) (t s d : Nat × Nat) (hr : w.heap[r]? = some (.map #[{ key := .int .i64 2, val := .slice (some ⟨gu, 0, none⟩) 2 cu, born := b0 }] c)) (hU : Row w (.slice (some ⟨gu, 0, none⟩) 2 cu) 2 (fun j => fac2.getD j (0, 0))) (hg : g < w.heap.size) (hc : ∀ j, j < 2 → w.cell? ⟨g, j, none⟩ = some (cV (zs j)))
    (hP : ∀ w, Is 49 #[cV (1065353216, 0), cV (zs 1)] w (cV t)) (hS : SumD (zs 0) t s d) :
    Calls Try.prog 68 #[.agg #[.map (some r)], .slice (some ⟨g, 0, none⟩) 2 cap] w (Of2b w r c b0 gu cu s d) := by
  have hS0 := Held.start hr hg hc
  have HR := Lib.hid hr
  have HU := Lib.hid hU
  have hcu : 2 ≤ cu := by obtain ⟨_, _, eu, h⟩ := hU; cases eu; exact h.2.1
  clear hr hc hU
  go_enter Try.func68, Try.ntmps68
  go_wp2_with fail
  go_region_held3 (fun w' => w'.cell? ⟨w.heap.size, 0, none⟩ = some (.map (some r)) ∧ Rest w r (.map #[{ key := .int .i64 2, val := .slice (some ⟨gu, 0, none⟩) 2 cu, born := b0 }] c) g 2 zs w')
    (first | assumption | exact Held.drew (by assumption) | exact Held.alloc2 _ _ (by assumption) | exact Held.keep (by assumption) (by assumption))
    (first
      | (go_at_call 82; refine (every_any _ _ _ 0 _).mono ?_; rintro e w' ⟨rfl, rfl⟩)
      | (go_at_call 81; refine (coll (W := w) (r := r) (o := .map #[{ key := .int .i64 2, val := .slice (some ⟨gu, 0, none⟩) 2 cu, born := b0 }] c) (g := g) (h := 1) (cap := cap) (fr := 0) (zs := zs) (by omega) (by omega) (by omega) (by assumption) (by simp <;> omega) (by simp <;> omega) (by simp [go_sem]) (by simp [go_sem])).mono ?_; rintro e w' ⟨v, rfl, hrow, hB⟩; obtain ⟨ge, ce, rfl, hge⟩ := hrow)
      | (go_at_call 68; refine (of_1 _ _ _ _).mono ?_; rintro e w1 ⟨rfl, hB1⟩; have hE : Row w1 (.slice (some ⟨ge, 0, none⟩) 1 ce) 1 (fun j => zs (0 + 2 * j)) := Row.below hB1 ⟨ge, ce, rfl, hge⟩))
  rename_i hH4
  have hH5 : Held2 w r (.map #[{ key := .int .i64 2, val := .slice (some ⟨gu, 0, none⟩) 2 cu, born := b0 }] c) g 2 zs (.slice (some ⟨ge, 0, none⟩) 1 ce) 1 (fun j => zs (0 + 2 * j)) w1 := ⟨hH4.1, hH4.2, hE⟩
  clear hH4 hE
  go_wp2_with fail
  go_region_held3 (fun w' => w'.cell? ⟨w.heap.size, 0, none⟩ = some (.map (some r)) ∧ Rest w r (.map #[{ key := .int .i64 2, val := .slice (some ⟨gu, 0, none⟩) 2 cu, born := b0 }] c) g 2 zs w' ∧ Row w' (.slice (some ⟨ge, 0, none⟩) 1 ce) 1 (fun j => zs (0 + 2 * j)))
    (first | assumption | exact Held2.drew (by assumption) | exact Held2.alloc2 _ _ (by assumption) | exact Held2.keep (by assumption) (by assumption))
    (first
      | (go_at_call 82; refine (every_any _ _ _ 1 _).mono ?_; rintro e w' ⟨rfl, rfl⟩)
      | (go_at_call 81; refine (coll2 (W := w) (r := r) (o := .map #[{ key := .int .i64 2, val := .slice (some ⟨gu, 0, none⟩) 2 cu, born := b0 }] c) (g := g) (h := 1) (cap := cap) (fr := 1) (zs := zs) (u := .slice (some ⟨ge, 0, none⟩) 1 ce) (k := 1) (ys := fun j => zs (0 + 2 * j)) (by omega) (by omega) (by omega) (by assumption) (by simp <;> omega) (by simp <;> omega) (by simp [go_sem]) (by simp [go_sem])).mono ?_; rintro e w' ⟨v, rfl, hrow, hB⟩; obtain ⟨go, co, rfl, hgo⟩ := hrow)
      | (go_at_call 68; refine (of_1 _ _ _ _).mono ?_; rintro e w2 ⟨rfl, hB2⟩; have hO : Row w2 (.slice (some ⟨go, 0, none⟩) 1 co) 1 (fun j => zs (1 + 2 * j)) := Row.below hB2 ⟨go, co, rfl, hgo⟩))
  rename_i hH6
  obtain ⟨hb6, hR6, hE6⟩ := hH6
  have hB7 : Below w2.heap.size w2 (w2.alloc (.cells #[.complex .f32 0 0, .complex .f32 0 0] 83)) := (Below.refl _ _).alloc (Nat.le_refl _) _
  have hb7 := (Held.keep hB7 ⟨hb6, hR6⟩).1
  have hm7 := (Held.keep hB7 ⟨hb6, hR6⟩).2.2.2.1
  go_wp2_with (go_at_call 83; refine (again_2 _ r c b0 _ hm7).mono ?_; rintro e w3 ⟨rfl, hB8⟩; have hb8 := But.of_below (r := r) hB8; have hmu := (hB8.block r (Array.getElem?_eq_some_iff.1 hm7).1).trans hm7)
  -- at the loop
  have hrW : r < w.heap.size := hR6.2.2.2.2.1
  have hszw : w.heap.size + 1 ≤ w2.heap.size := hR6.2.1
  have hgE : ge < w2.heap.size := by obtain ⟨_, _, e, h, _⟩ := hE6; cases e; exact h
  have hm3 : w3.heap.size ≥ w2.heap.size + 1 := by have := hb8.size; simp at this; omega
  have ce0 : w3.cell? ⟨ge, 0, none⟩ = some (.complex .f32 (zs 0).1 (zs 0).2) := by
    obtain ⟨_, _, e, h, _, hz⟩ := Row.but hm7 (by omega) hb8 (Row.below hB7 hE6); cases e; exact hz 0 (by omega)
  have co0 : w3.cell? ⟨go, 0, none⟩ = some (.complex .f32 (zs 1).1 (zs 1).2) := by
    obtain ⟨_, _, e, h, _, hz⟩ := Row.but hm7 (by omega) hb8 (Row.below hB7 hO); cases e; exact hz 0 (by omega)
  have hbut : But r w w3 := ((hR6.1.trans (But.of_below hB7)).trans hb8)
  have hgu : gu < w3.heap.size ∧ 2 ≤ cu ∧ ∀ (j : Nat), j < 2 → w3.cell? ⟨gu, j, none⟩ = some (cV (fac2.getD j (0, 0))) := by
    obtain ⟨_, _, eu, h⟩ := Row.but HR.out (by omega) hbut HU.out
    cases eu
    exact h
  have cu0 : w3.cell? ⟨gu, 0, none⟩ = some (.complex .f32 1065353216 0) := hgu.2.2 0 (by omega)
  have hblk : w3.heap[w2.heap.size]? = some (.cells #[.complex .f32 0 0, .complex .f32 0 0] 83) := (hb8.block w2.heap.size (by simp) (by simp; omega)).trans (World.alloc_heap_new w2 _)
  have cb0 : w3.cell? ⟨w2.heap.size, 0, none⟩ = some (.complex .f32 0 0) := by simp [World.cell?, hblk]
  have cb1 : w3.cell? ⟨w2.heap.size, 1, none⟩ = some (.complex .f32 0 0) := by simp [World.cell?, hblk]
  have fb0 : w3.frozen? ⟨w2.heap.size, 0, none⟩ = false := by simp [World.frozen?, hblk]
  have fb1 : w3.frozen? ⟨w2.heap.size, 1, none⟩ = false := by simp [World.frozen?, hblk]
  clear hb8 hblk HR HU
  have HF : Hid (gu < w3.heap.size ∧ 2 ≤ cu ∧ ∀ (j : Nat), j < 2 → w3.cell? ⟨gu, j, none⟩ = some (cV (fac2.getD j (0, 0)))) := Lib.hid hgu
  have HM := Lib.hid hmu
  clear hgu hmu hb7 hm7 hB7 hE6 hR6 hb6 hO hB2 hgo hB hH5 hB1 hge hS0
  have hP' : ∀ w, Is 49 #[.complex .f32 1065353216 0, .complex .f32 (zs 1).1 (zs 1).2] w (.complex .f32 t.1 t.2) := hP
  have e1 : ∀ p w, (binOp .add p (.complex .f32 (zs 0).1 (zs 0).2) (.complex .f32 t.1 t.2)).run Try.prog w = .ok (.complex .f32 s.1 s.2) w := hS.ops.1
  have e2 : ∀ p w, (binOp .sub p (.complex .f32 (zs 0).1 (zs 0).2) (.complex .f32 t.1 t.2)).run Try.prog w = .ok (.complex .f32 d.1 d.2) w := hS.ops.2
  clear hP hS
  go_loopw [36] (fun i W => ∃ k : Nat, i = .int .i64 k ∧ ((k = 0 ∧ W = w3) ∨ (k = 1 ∧ Of2b w r c b0 gu cu s d (.returned (.slice (some ⟨w2.heap.size, 0, none⟩) 2 2)) W))) (fun i _ => 1 - (intOf i).toNat)
  case atStart => exact ⟨0, rfl, .inl ⟨rfl, rfl⟩⟩
  case round =>
    obtain ⟨k, rfl, ⟨rfl, rfl⟩ | ⟨rfl, hdone⟩⟩ := hrel
    · go_wp2_with (go_at_call 49; refine (hP' _).mono ?_; rintro e w' ⟨rfl, rfl⟩)
      have hO : Outs ge 0 w2.heap.size 0 1 (.complex .f32 (zs 0).1 (zs 0).2) wr := ⟨ce0, by rw [cb0]; simp [at0, cb0], by rw [cb1]; simp [at0, cb1], fb0, fb1, by omega⟩
      have hD := Lib.hid (done2b (s := s) (d := d) cb0 cb1 HF.out HM.out hbut (by omega) (by omega))
      clear ce0 cb0 cb1 fb0 fb1 co0 cu0 hP' HF HM
      obtain ⟨o1, o2, o3, o4, o5, o6⟩ := hO
      go_region
      go_wp2
      go_roundw
      case rel => exact ⟨1, by simp, .inr ⟨rfl, hD.out⟩⟩
      case measure => simp [intOf]
    · go_wp2
      go_ret
      exact hdone

end Go.Proofs.Ytmhfdjognikilaa
