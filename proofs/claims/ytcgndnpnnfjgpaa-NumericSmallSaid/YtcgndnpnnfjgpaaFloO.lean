/- Layer 16, part O. -/
import Derived.Test.YtcgndnpnnfjgpaaFloN
namespace Go.Proofs.Ytcgndnpnnfjgpaa
open Go.RowKit Go.Shelf

def Fact (B : Nat) (x y : Nat → Int) (j r : Nat) (v : Value) : Prop :=
  if r = 0 then v = .pointer (some ⟨B + j, 0, none⟩)
  else if r = 1 then v = .int .i16 (x j)
  else if r = 2 then v = .int .i64 ((x j).tmod 1001)
  else if r = 3 then v = .pointer (some ⟨B + j, 1, none⟩)
  else if r = 4 then v = .int .i16 (y j)
  else if r = 5 then v = .int .i64 ((y j).tmod 1001)
  else ∃ a b, Val a ((x j).tmod 1001) ∧ Val b ((y j).tmod 1001) ∧ v = numV a b

def Hold (w W : World) (v : Value) : Prop :=
  ∃ b, v = .pointer (some ⟨b, 0, none⟩) ∧ w.heap.size + 3 ≤ b ∧ b < W.heap.size ∧ (W.cell? ⟨b, 0, none⟩).isSome = true ∧ (W.cell? ⟨b, 1, none⟩).isSome = true ∧ W.frozen? ⟨b, 0, none⟩ = false ∧ W.frozen? ⟨b, 1, none⟩ = false
def Stored (W : World) (v : Value) (n m : Int) : Prop :=
  ∃ b c d, v = .pointer (some ⟨b, 0, none⟩) ∧ b < W.heap.size ∧ Val c n ∧ Val d m ∧ W.cell? ⟨b, 0, none⟩ = some (.int .u32 c) ∧ W.cell? ⟨b, 1, none⟩ = some (.int .u32 d)

abbrev On (listed : Array Bool) (i : Nat) : Prop := listed.getD i false = true

theorem On.keep {listed : Array Bool} {i j : Nat} (h : On listed j) : On (listed.setIfInBounds i true) j := by
  have hs : ∀ (x : Array Bool) (k : Nat), x.getD k false = (x[k]?).getD false := fun x k => by simp
  unfold On at *
  rw [hs] at *
  rw [Array.getElem?_setIfInBounds]
  split
  · rename_i e
    subst e
    by_cases hlt : i < listed.size
    · simp [hlt]
    · have : listed[i]? = none := by simp; omega
      rw [this] at h
      cases h
  · exact h

structure Inv (w : World) (x y : Nat → Int) (listed : Array Bool) (u : Nat → Value) (W : World) : Prop where
  below : Below w.heap.size w W
  size : w.heap.size + 3 ≤ W.heap.size
  boxes : ∀ j, j < 3 → W.cell? ⟨w.heap.size + j, 0, none⟩ = some (.int .i16 (x j)) ∧ W.cell? ⟨w.heap.size + j, 1, none⟩ = some (.int .i16 (y j))
  facts : ∀ j r, j < 3 → r < 7 → On listed (7 * j + r) → Fact w.heap.size x y j r (u (20 + 7 * j + r))
  hold : ∀ j, j < 3 → On listed (21 + j) → Hold w W (u (9 + j))
  dist : ∀ j k, j < 3 → k < 3 → j ≠ k → On listed (21 + j) → On listed (21 + k) → u (9 + j) ≠ u (9 + k)
  order : ∀ j, j < 3 → On listed (24 + j) → On listed (21 + j)
  stored : ∀ j, j < 3 → On listed (24 + j) → Stored W (u (9 + j)) ((x j).tmod 1001) ((y j).tmod 1001)

theorem Hold.below {w W W' : World} {v : Value} (hB : Below W.heap.size W W') (h : Hold w W v) : Hold w W' v := by
  obtain ⟨b, e, h1, h2, c0, c1, f0, f1⟩ := h
  exact ⟨b, e, h1, Nat.lt_of_lt_of_le h2 hB.size, by rw [hB.cell (p := ⟨b, 0, none⟩) h2]; exact c0, by rw [hB.cell (p := ⟨b, 1, none⟩) h2]; exact c1, (hB.frozen (p := ⟨b, 0, none⟩) h2).trans f0, (hB.frozen (p := ⟨b, 1, none⟩) h2).trans f1⟩
theorem Stored.below {W W' : World} {v : Value} {n m : Int} (hB : Below W.heap.size W W') (h : Stored W v n m) : Stored W' v n m := by
  obtain ⟨b, c, d, e, h2, v1, v2, c0, c1⟩ := h
  exact ⟨b, c, d, e, Nat.lt_of_lt_of_le h2 hB.size, v1, v2, (hB.cell (p := ⟨b, 0, none⟩) h2).trans c0, (hB.cell (p := ⟨b, 1, none⟩) h2).trans c1⟩

theorem upd_same {u : Nat → Value} {d : Nat} {v : Value} : upd u d v d = v := by simp [upd]
theorem upd_other {u : Nat → Value} {d e : Nat} {v : Value} (h : e ≠ d) : upd u d v e = u e := by simp [upd, h]

/-- An operation that leaves a value in its own slot. -/
theorem Inv.put {w W W' : World} {x y : Nat → Int} {listed : Array Bool} {u : Nat → Value} {j r : Nat} {v : Value} (hj : j < 3) (hr : r < 7) (hB : Below W.heap.size W W') (hF : Fact w.heap.size x y j r v) (h : Inv w x y listed u W) :
    Inv w x y (listed.setIfInBounds (7 * j + r) true) (upd u (20 + 7 * j + r) v) W' := by
  have old : ∀ i, i ≠ 7 * j + r → On (listed.setIfInBounds (7 * j + r) true) i → On listed i := fun i hi ho => (listed_get ho).resolve_right hi
  refine ⟨h.below.trans (hB.mono h.below.size), Nat.le_trans h.size hB.size, fun k hk => ?_, fun k s hk hs ho => ?_, fun k hk ho => ?_, fun k l hk hl hne h1 h2 => ?_, fun k hk ho => ?_, fun k hk ho => ?_⟩
  · have hlt : w.heap.size + k < W.heap.size := by have := h.size; omega
    exact ⟨(hB.cell (p := ⟨_, 0, none⟩) hlt).trans (h.boxes k hk).1, (hB.cell (p := ⟨_, 1, none⟩) hlt).trans (h.boxes k hk).2⟩
  · by_cases e : 7 * k + s = 7 * j + r
    · obtain rfl : k = j := by omega
      obtain rfl : s = r := by omega
      rw [upd_same]; exact hF
    · rw [upd_other (by omega)]; exact h.facts k s hk hs (old _ e ho)
  · rw [upd_other (by omega)]; exact (h.hold k hk (old _ (by omega) ho)).below hB
  · rw [upd_other (by omega), upd_other (by omega)]; exact h.dist k l hk hl hne (old _ (by omega) h1) (old _ (by omega) h2)
  · exact (h.order k hk (old _ (by omega) ho)).keep
  · rw [upd_other (by omega)]; exact (h.stored k hk (old _ (by omega) ho)).below hB

/-- A new variable. -/
theorem Inv.alloc {w W : World} {x y : Nat → Int} {listed : Array Bool} {u : Nat → Value} {j : Nat} (hj : j < 3) (hn : ¬ On listed (21 + j)) (h : Inv w x y listed u W) :
    Inv w x y (listed.setIfInBounds (21 + j) true) (upd u (9 + j) (.pointer (some ⟨W.heap.size, 0, none⟩))) (W.alloc (.cells #[.int .u32 0, .int .u32 0] 32)) := by
  have hB : Below W.heap.size W (W.alloc (.cells #[.int .u32 0, .int .u32 0] 32)) := (Below.refl _ _).alloc (Nat.le_refl _) _
  have hnew := World.alloc_heap_new W (.cells #[.int .u32 0, .int .u32 0] 32)
  have old : ∀ i, i ≠ 21 + j → On (listed.setIfInBounds (21 + j) true) i → On listed i := fun i hi ho => (listed_get ho).resolve_right hi
  have far : ∀ k, k < 3 → On listed (21 + k) → u (9 + k) ≠ .pointer (some ⟨W.heap.size, 0, none⟩) := by
    intro k hk ho e
    obtain ⟨b, e', h1, h2, -⟩ := h.hold k hk ho
    rw [e] at e'
    cases e'
    omega
  refine ⟨h.below.trans (hB.mono h.below.size), Nat.le_trans h.size hB.size, fun k hk => ?_, fun k s hk hs ho => ?_, fun k hk ho => ?_, fun k l hk hl hne h1 h2 => ?_, fun k hk ho => ?_, fun k hk ho => ?_⟩
  · have hlt : w.heap.size + k < W.heap.size := by have := h.size; omega
    exact ⟨(hB.cell (p := ⟨_, 0, none⟩) hlt).trans (h.boxes k hk).1, (hB.cell (p := ⟨_, 1, none⟩) hlt).trans (h.boxes k hk).2⟩
  · rw [upd_other (by omega)]; exact h.facts k s hk hs (old _ (by omega) ho)
  · by_cases e : k = j
    · subst e
      rw [upd_same]
      exact ⟨W.heap.size, rfl, h.size, by simp, by rw [(cell_cells hnew).1]; rfl, by rw [(cell_cells hnew).1]; rfl, (cell_cells hnew (j := 0)).2, (cell_cells hnew (j := 1)).2⟩
    · rw [upd_other (by omega)]; exact (h.hold k hk (old _ (by omega) ho)).below hB
  · by_cases e : k = j
    · subst e
      rw [upd_same, upd_other (by omega)]
      exact fun e => far l hl (old _ (by omega) h2) e.symm
    · by_cases e2 : l = j
      · subst e2
        rw [upd_same, upd_other (by omega)]
        exact far k hk (old _ (by omega) h1)
      · rw [upd_other (by omega), upd_other (by omega)]
        exact h.dist k l hk hl hne (old _ (by omega) h1) (old _ (by omega) h2)
  · exact (h.order k hk (old _ (by omega) ho)).keep
  · have hk' := old _ (by omega) ho
    have : k ≠ j := by rintro rfl; exact hn (h.order k hk hk')
    rw [upd_other (by omega)]; exact (h.stored k hk hk').below hB

/-- The number of a triple is stored. -/
theorem Inv.store {w W : World} {x y : Nat → Int} {listed : Array Bool} {u : Nat → Value} {j b c d : Nat} (hj : j < 3) (ho1 : On listed (21 + j)) (hu : u (9 + j) = .pointer (some ⟨b, 0, none⟩)) (hc : Val c ((x j).tmod 1001)) (hd : Val d ((y j).tmod 1001))
    (hn : ¬ On listed (24 + j)) (h : Inv w x y listed u W) :
    Inv w x y (listed.setIfInBounds (24 + j) true) u ((W.setCell ⟨b, 0, none⟩ (.int .u32 c)).setCell ⟨b, 1, none⟩ (.int .u32 d)) := by
  have old : ∀ i, i ≠ 24 + j → On (listed.setIfInBounds (24 + j) true) i → On listed i := fun i hi ho => (listed_get ho).resolve_right hi
  obtain ⟨b', e', hb1, hb2, c0, c1, f0, f1⟩ := h.hold j hj ho1
  rw [hu] at e'
  cases e'
  have oth : ∀ g i, g ≠ b → ((W.setCell ⟨b, 0, none⟩ (.int .u32 c)).setCell ⟨b, 1, none⟩ (.int .u32 d)).cell? ⟨g, i, none⟩ = W.cell? ⟨g, i, none⟩ := fun g i hg =>
    (World.cell?_setCell_other _ _ _ _ (by intro e; cases e; exact hg rfl)).trans (World.cell?_setCell_other _ _ _ _ (by intro e; cases e; exact hg rfl))
  have s0 : ((W.setCell ⟨b, 0, none⟩ (.int .u32 c)).setCell ⟨b, 1, none⟩ (.int .u32 d)).cell? ⟨b, 0, none⟩ = some (.int .u32 c) :=
    (World.cell?_setCell_other _ _ _ _ (by intro e; cases e)).trans (World.cell?_setCell_same' _ _ _ c0)
  have s1 : ((W.setCell ⟨b, 0, none⟩ (.int .u32 c)).setCell ⟨b, 1, none⟩ (.int .u32 d)).cell? ⟨b, 1, none⟩ = some (.int .u32 d) := by
    obtain ⟨v, hv⟩ := Option.isSome_iff_exists.1 c1
    obtain ⟨v', hv'⟩ := cell?_setCell_some (p := ⟨b, 0, none⟩) (x := .int .u32 c) hv
    exact World.cell?_setCell_same _ _ _ hv'
  have hsz : ((W.setCell ⟨b, 0, none⟩ (.int .u32 c)).setCell ⟨b, 1, none⟩ (.int .u32 d)).heap.size = W.heap.size := by simp
  refine ⟨(h.below.setCell (p := ⟨b, 0, none⟩) (by show w.heap.size ≤ b; omega) _).setCell (p := ⟨b, 1, none⟩) (by show w.heap.size ≤ b; omega) _, by rw [hsz]; exact h.size, fun k hk => ?_, fun k s hk hs ho => ?_, fun k hk ho => ?_, fun k l hk hl hne h1 h2 => ?_, fun k hk ho => ?_, fun k hk ho => ?_⟩
  · rw [oth _ _ (by omega), oth _ _ (by omega)]; exact h.boxes k hk
  · exact h.facts k s hk hs (old _ (by omega) ho)
  · obtain ⟨g, e, g1, g2, a0, a1, q0, q1⟩ := h.hold k hk (old _ (by omega) ho)
    refine ⟨g, e, g1, by rw [hsz]; exact g2, ?_, ?_, by rw [World.frozen?_setCell, World.frozen?_setCell]; exact q0, by rw [World.frozen?_setCell, World.frozen?_setCell]; exact q1⟩
    · by_cases e : g = b
      · subst e; rw [s0]; rfl
      · rw [oth _ _ e]; exact a0
    · by_cases e : g = b
      · subst e; rw [s1]; rfl
      · rw [oth _ _ e]; exact a1
  · exact h.dist k l hk hl hne (old _ (by omega) h1) (old _ (by omega) h2)
  · by_cases e : k = j
    · subst e; exact ho1.keep
    · exact (h.order k hk (old _ (by omega) ho)).keep
  · by_cases e : k = j
    · subst e
      exact ⟨b, c, d, hu, by rw [hsz]; exact hb2, hc, hd, s0, s1⟩
    · have hk' := old _ (by omega) ho
      obtain ⟨g, p, q, e1, g2, v1, v2, a0, a1⟩ := h.stored k hk hk'
      have hg : g ≠ b := by
        rintro rfl
        exact h.dist k j hk hj e (h.order k hk hk') ho1 (e1.trans hu.symm)
      exact ⟨g, p, q, e1, by rw [hsz]; exact g2, v1, v2, by rw [oth _ _ hg]; exact a0, by rw [oth _ _ hg]; exact a1⟩

end Go.Proofs.Ytcgndnpnnfjgpaa
