/- Layer 16 (numeric), transforms: the package's transform of a list of one, two or four values of whole parts. -/
import Derived.Test.YtmhfdjognikilaaBackA
import Derived.Test.YtmhfdjognikilaaProF
namespace Go.Proofs.Ytmhfdjognikilaa
open Go.RowKit Go.Shelf

theorem CV.sub {p q : Nat × Nat} {a b : Cx} {A : Nat} (h : CV p a) (g : CV q b) (hb : Bd A (csub a b)) (hA : A < 16777216) : ∃ r : Nat × Nat, Ieee.single.sub p.1 q.1 = some r.1 ∧ Ieee.single.sub p.2 q.2 = some r.2 ∧ CV r (csub a b) := by
  obtain ⟨b1, b2⟩ := hb.lt hA
  obtain ⟨r1, e1, v1⟩ := h.1.sub g.1 b1
  obtain ⟨r2, e2, v2⟩ := h.2.sub g.2 b2
  exact ⟨(r1, r2), e1, e2, v1, v2⟩

theorem cv_one : CV (1065353216, 0) (1, 0) := ⟨⟨by decide, false, fun _ => by decide, by decide⟩, val_zero⟩
theorem cv_mi : CV (0, 3212836864) (0, -1) := ⟨val_zero, ⟨by decide, true, fun _ => by decide, by decide⟩⟩
theorem bd_one : Bd 1 (1, 0) := by unfold Bd; simp
theorem bd_mi : Bd 1 (0, -1) := by unfold Bd; simp

/-- One step of a transform. -/
theorem fly {p q u : Nat × Nat} {a b f : Cx} {A B : Nat} (hp : CV p a) (hq : CV q b) (hu : CV u f) (ha : Bd A a) (hb : Bd B b) (hf : Bd 1 f) (hA : A + 2 * (1 * B) < 16777216) :
    ∃ t s d : Nat × Nat, (∀ w, Is 49 #[cV u, cV q] w (cV t)) ∧ SumD p t s d ∧ CV s (cadd a (cmul f b)) ∧ CV d (csub a (cmul f b)) := by
  obtain ⟨t, ht, hP⟩ := productC hu hq hf hb (by omega)
  obtain ⟨s, e1, e2, hs⟩ := hp.add ht (ha.add (hf.mul hb)) hA
  obtain ⟨d, e3, e4, hd⟩ := hp.sub ht (ha.sub (hf.mul hb)) hA
  exact ⟨t, s, d, hP, ⟨e1, e2, e3, e4⟩, hs, hd⟩

/-- What the transform of n values leaves. -/
def OfN (w : World) (r n : Nat) (c : Nat → Cx) (e : Ending) (W' : World) : Prop := ∃ v ys, e = .returned v ∧ Row W' v n ys ∧ (∀ k, k < n → CV (ys k) (ft c n k)) ∧ But r w W'

theorem ofC (w : World) (r m g cap n : Nat) (zs : Nat → Nat × Nat) (c : Nat → Cx) (hn : n = 1 ∨ n = 2 ∨ n = 4) (hcap : n ≤ cap) (hr : w.heap[r]? = some (.map #[] m)) (hg : g < w.heap.size) (hc : ∀ j, j < n → w.cell? ⟨g, j, none⟩ = some (cV (zs j)))
    (hz : ∀ j, j < n → CV (zs j) (c j) ∧ Bd 100000 (c j)) : Calls Try.prog 68 #[.agg #[.map (some r)], .slice (some ⟨g, 0, none⟩) n cap] w (OfN w r n c) := by
  rcases hn with rfl | rfl | rfl
  · refine (of_1 r (some ⟨g, 0, none⟩) cap w).mono ?_
    rintro e W' ⟨rfl, hB⟩
    refine ⟨_, zs, rfl, ⟨g, cap, rfl, Nat.lt_of_lt_of_le hg hB.size, hcap, fun j hj => (hB.cell (p := ⟨g, j, none⟩) hg).trans (hc j hj)⟩, fun k hk => ?_, But.of_below hB⟩
    obtain rfl : k = 0 := by omega
    simp only [ft, if_true]
    exact (hz 0 (by omega)).1
  · obtain ⟨z0, b0⟩ := hz 0 (by omega)
    obtain ⟨z1, b1⟩ := hz 1 (by omega)
    obtain ⟨t, s, d, hP, hS, hs, hd⟩ := fly z0 z1 cv_one b0 b1 bd_one (by decide)
    refine (of_2 w r m g cap zs t s d hr hg hc hP hS).mono ?_
    rintro e W' ⟨v, u, rfl, hrow, -, -, hbut⟩
    refine ⟨v, _, rfl, hrow, fun k hk => ?_, hbut⟩
    have : k = 0 ∨ k = 1 := by omega
    rcases this with rfl | rfl
    · simpa [ft] using hs
    · simpa [ft] using hd
  · obtain ⟨z0, b0⟩ := hz 0 (by omega)
    obtain ⟨z1, b1⟩ := hz 1 (by omega)
    obtain ⟨z2, b2⟩ := hz 2 (by omega)
    obtain ⟨z3, b3⟩ := hz 3 (by omega)
    obtain ⟨t, sE, dE, hP, hS, hsE, hdE⟩ := fly z0 z2 cv_one b0 b2 bd_one (by decide)
    obtain ⟨t', sO, dO, hP', hS', hsO, hdO⟩ := fly z1 z3 cv_one b1 b3 bd_one (by decide)
    obtain ⟨t1, y0, y2, hP1, hS1, h0, h2⟩ := fly hsE hsO cv_one (b0.add (bd_one.mul b2)) (b1.add (bd_one.mul b3)) bd_one (by decide)
    obtain ⟨t2, y1, y3, hP2, hS2, h1, h3⟩ := fly hdE hdO cv_mi (b0.sub (bd_one.mul b2)) (b1.sub (bd_one.mul b3)) bd_mi (by decide)
    have hF : Four zs (fun k => if k = 0 then y0 else if k = 1 then y1 else if k = 2 then y2 else y3) sE dE sO dO := ⟨⟨t, hP, hS⟩, ⟨t', hP', hS'⟩, ⟨t1, hP1, hS1⟩, ⟨t2, hP2, hS2⟩⟩
    refine (of_4 w r m g cap zs _ sE dE sO dO hr hg hc hF).mono ?_
    rintro e W' ⟨v, rfl, hrow, hbut⟩
    refine ⟨v, _, rfl, hrow, fun k hk => ?_, hbut⟩
    have : k = 0 ∨ k = 1 ∨ k = 2 ∨ k = 3 := by omega
    rcases this with rfl | rfl | rfl | rfl
    · simpa [ft] using h0
    · simpa [ft] using h1
    · simpa [ft] using h2
    · simpa [ft] using h3
end Go.Proofs.Ytmhfdjognikilaa
