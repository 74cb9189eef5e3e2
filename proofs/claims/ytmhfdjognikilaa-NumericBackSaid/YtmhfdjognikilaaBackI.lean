/- Layer 16 (numeric), transforms: the law's own walk: lists that it appends to. -/
import Derived.Test.YtmhfdjognikilaaBackH
import Derived.Deep.AppendLies
namespace Go.Proofs.Ytmhfdjognikilaa
open Go.RowKit Go.Shelf

/-- Four pairs that came in. -/
abbrev quad (l : Nat → Int × Int) : Value := .agg #[.int .i16 (l 0).1, .int .i16 (l 0).2, .int .i16 (l 1).1, .int .i16 (l 1).2, .int .i16 (l 2).1, .int .i16 (l 2).2, .int .i16 (l 3).1, .int .i16 (l 3).2]
/-- They are numbers of sixteen bits. -/
def Small16 (l : Nat → Int × Int) : Prop := ∀ j, j < 4 → (-32768 ≤ (l j).1 ∧ (l j).1 ≤ 32767) ∧ (-32768 ≤ (l j).2 ∧ (l j).2 ≤ 32767)
theorem Pairs.new {W : World} {b : Nat} {l : Nat → Int × Int} (hl : Small16 l) (h : W.heap[b]? = some (.cells #[.int .i16 (l 0).1, .int .i16 (l 0).2, .int .i16 (l 1).1, .int .i16 (l 1).2, .int .i16 (l 2).1, .int .i16 (l 2).2, .int .i16 (l 3).1, .int .i16 (l 3).2] 69)) : Pairs W b 4 l := by
  refine ⟨(Array.getElem?_eq_some_iff.1 h).1, fun j hj => ⟨?_, hl j hj⟩⟩
  rw [(cell_cells h).1, (cell_cells h).1]
  have : j = 0 ∨ j = 1 ∨ j = 2 ∨ j = 3 := by omega
  rcases this with rfl | rfl | rfl | rfl <;> exact ⟨rfl, rfl⟩
theorem Pairs.less {W : World} {b n m : Nat} {x : Nat → Int × Int} (h : Pairs W b n x) (hm : m ≤ n) : Pairs W b m x := ⟨h.1, fun j hj => h.2 j (by omega)⟩

/-- A list that is not empty: its words. -/
def LW (W : World) (v : Value) (n : Nat) (zs : Nat → Nat × Nat) : Prop := ∃ g cap, v = .slice (some ⟨g, 0, none⟩) n cap ∧ n ≤ cap ∧ Nums W g n zs
theorem LN.words {W : World} {v : Value} {n : Nat} {c : Nat → Cx} (h : LN W v n c) (hn : 1 ≤ n) : ∃ zs, LW W v n zs ∧ ∀ j, j < n → CV (zs j) (c j) := by
  obtain ⟨zs, h, hc⟩ := h
  rcases h with ⟨h0, -⟩ | ⟨-, g, cap, hv, hle, hN⟩
  · omega
  · exact ⟨zs, ⟨g, cap, hv, hle, hN⟩, hc⟩
theorem LW.ln {W : World} {v : Value} {n : Nat} {zs : Nat → Nat × Nat} {c : Nat → Cx} (h : LW W v n zs) (hn : 1 ≤ n) (hc : ∀ j, j < n → CV (zs j) (c j)) : LN W v n c := by
  obtain ⟨g, cap, hv, hle, hN⟩ := h
  exact ⟨zs, .inr ⟨hn, g, cap, hv, hle, hN⟩, hc⟩
theorem LW.below {w w' : World} {v : Value} {n : Nat} {zs : Nat → Nat × Nat} (hB : Below w.heap.size w w') (h : LW w v n zs) : LW w' v n zs := by
  obtain ⟨g, cap, hv, hle, hN⟩ := h
  exact ⟨g, cap, hv, hle, hN.below hB⟩
theorem LW.of_own {W : World} {base n : Nat} {v : Value} {zs : Nat → Nat × Nat} (h : W.ownsRow base 32 2 v n (cellsN zs n)) (hn : 1 ≤ n) : LW W v n zs := by
  rcases h.2 with ⟨-, h1⟩ | ⟨g, cap, cur, rfl, -, hg, hle, -⟩
  · omega
  · refine ⟨g, cap, rfl, hle, (Array.getElem?_eq_some_iff.1 hg).1, fun j hj => ?_⟩
    have hk := h.cells (g := g) rfl
    obtain ⟨e1, e2⟩ := cellsN_get zs n j hj
    have k1 := hk _ _ e1
    have k2 := hk _ _ e2
    rw [add_zero] at k1 k2
    exact ⟨k1, k2⟩

/-- Two lists of the call's own, apart from one another. -/
def Rows2 (base i j : Nat) (z1 z2 : Nat → Nat × Nat) (v1 v2 : Value) (W : World) : Prop :=
  W.ownsRow base 32 2 v1 i (cellsN z1 i) ∧ W.ownsRow base 32 2 v2 j (cellsN z2 j) ∧ ∀ g, v1.ownBlock = some g → v2.ownBlock ≠ some g
theorem Rows2.start (W : World) (base : Nat) (z1 z2 : Nat → Nat × Nat) : Rows2 base 0 0 z1 z2 (.slice none 0 0) (.slice none 0 0) W :=
  ⟨World.ownsRow_nil _ _ _ _, World.ownsRow_nil _ _ _ _, fun g h => by cases h⟩
theorem Rows2.below {base i j : Nat} {z1 z2 : Nat → Nat × Nat} {v1 v2 : Value} {W W' : World} (hB : Below W.heap.size W W') (h : Rows2 base i j z1 z2 v1 v2 W) : Rows2 base i j z1 z2 v1 v2 W' :=
  ⟨own_below h.1 hB, own_below h.2.1 hB, h.2.2⟩
/-- The first one gets one more. -/
theorem Rows2.first {base i j g cap H : Nat} {z1 z2 : Nat → Nat × Nat} {v1 v2 : Value} {W W' : World} (h : Rows2 base i j z1 z2 v1 v2 W) (hgrow : W.grownBy W' v1.ownBlock) (hat : v1.ownBlock = some g ∨ g = H) (hH : W.heap.size = H)
    (hown : W'.ownsRow base 32 2 (.slice (some ⟨g, 0, none⟩) (i + 1) cap) (i + 1) (cellsN z1 (i + 1))) : Rows2 base (i + 1) j z1 z2 (.slice (some ⟨g, 0, none⟩) (i + 1) cap) v2 W' := by
  obtain ⟨h1, h2, h3⟩ := h
  refine ⟨hown, h2.kept hgrow ?_, fun x hx => ?_⟩
  · cases hv : v1.ownBlock with
    | none =>
      cases hv2 : v2.ownBlock with
      | none => exact .inl rfl
      | some y => exact .inr (by simp)
    | some x => exact .inr (h3 x hv)
  · obtain rfl : g = x := by simpa [Value.ownBlock] using hx
    rcases hat with e | e
    · exact h3 _ e
    · intro hv2
      have := (h2.lt g hv2).2
      omega
/-- The second one gets one more. -/
theorem Rows2.second {base i j g cap H : Nat} {z1 z2 : Nat → Nat × Nat} {v1 v2 : Value} {W W' : World} (h : Rows2 base i j z1 z2 v1 v2 W) (hgrow : W.grownBy W' v2.ownBlock) (hat : v2.ownBlock = some g ∨ g = H) (hH : W.heap.size = H)
    (hown : W'.ownsRow base 32 2 (.slice (some ⟨g, 0, none⟩) (j + 1) cap) (j + 1) (cellsN z2 (j + 1))) : Rows2 base i (j + 1) z1 z2 v1 (.slice (some ⟨g, 0, none⟩) (j + 1) cap) W' := by
  obtain ⟨h1, h2, h3⟩ := h
  refine ⟨h1.kept hgrow ?_, hown, fun x hx e => ?_⟩
  · cases hv : v1.ownBlock with
    | none => exact .inl rfl
    | some x => exact .inr (fun e => h3 x hv e.symm)
  · obtain rfl : g = x := by simpa [Value.ownBlock] using e
    rcases hat with e' | e'
    · exact h3 _ hx e'
    · have := (h1.lt g hx).2
      omega

/-- The sums of two lists. -/
theorem sums_words {n : Nat} {ys zs : Nat → Nat × Nat} {c d : Nat → Cx} {A B : Nat} (hy : ∀ j, j < n → CV (ys j) (c j) ∧ Bd A (c j)) (hz : ∀ j, j < n → CV (zs j) (d j) ∧ Bd B (d j)) (hAB : A + B < 16777216) :
    ∃ ss : Nat → Nat × Nat, ∀ j, j < n → CV (ss j) (cadd (c j) (d j)) ∧ ∀ w, Gives 13 #[numV (ys j).1 (ys j).2, numV (zs j).1 (zs j).2] w (numV (ss j).1 (ss j).2) := by
  refine Classical.axiomOfChoice (r := fun j (s : Nat × Nat) => j < n → CV s (cadd (c j) (d j)) ∧ ∀ w, Gives 13 #[numV (ys j).1 (ys j).2, numV (zs j).1 (zs j).2] w (numV s.1 s.2)) ?_
  intro j
  by_cases hj : j < n
  · obtain ⟨y1, y2⟩ := hy j hj
    obtain ⟨z1, z2⟩ := hz j hj
    obtain ⟨r, e1, e2, hr⟩ := y1.add z1 (y2.add z2) hAB
    exact ⟨r, fun _ => ⟨hr, fun w => add_any _ _ _ _ _ _ w y1.num.1 y1.num.2 z1.num.1 z1.num.2 hr.num.1 hr.num.2 e1 e2⟩⟩
  · exact ⟨(0, 0), fun h => absurd h hj⟩
/-- The products of two lists. -/
theorem products_words {n : Nat} {ys zs : Nat → Nat × Nat} {c d : Nat → Cx} {A B : Nat} (hy : ∀ j, j < n → CV (ys j) (c j) ∧ Bd A (c j)) (hz : ∀ j, j < n → CV (zs j) (d j) ∧ Bd B (d j)) (hAB : 2 * (A * B) < 16777216) :
    ∃ ss : Nat → Nat × Nat, ∀ j, j < n → CV (ss j) (cmul (c j) (d j)) ∧ ∀ w, Gives 15 #[numV (ys j).1 (ys j).2, numV (zs j).1 (zs j).2] w (numV (ss j).1 (ss j).2) := by
  refine Classical.axiomOfChoice (r := fun j (s : Nat × Nat) => j < n → CV s (cmul (c j) (d j)) ∧ ∀ w, Gives 15 #[numV (ys j).1 (ys j).2, numV (zs j).1 (zs j).2] w (numV s.1 s.2)) ?_
  intro j
  by_cases hj : j < n
  · obtain ⟨y1, y2⟩ := hy j hj
    obtain ⟨z1, z2⟩ := hz j hj
    obtain ⟨r, hr, hP⟩ := productC y1 z1 y2 z2 hAB
    exact ⟨r, fun _ => ⟨hr, fun w => mul_any _ _ _ _ _ _ w y1.num.1 y1.num.2 z1.num.1 z1.num.2 hr.num.1 hr.num.2 hP⟩⟩
  · exact ⟨(0, 0), fun h => absurd h hj⟩

/-- The boxes of the arguments. -/
def Boxes (w : World) (a b : Nat → Int × Int) (W : World) : Prop := Below w.heap.size w W ∧ Pairs W w.heap.size 4 a ∧ Pairs W (w.heap.size + 1) 4 b
theorem Boxes.keep {w W W' : World} {a b : Nat → Int × Int} (hB : Below W.heap.size W W') (h : Boxes w a b W) : Boxes w a b W' := ⟨h.1.trans (hB.mono h.1.size), h.2.1.below hB, h.2.2.below hB⟩
theorem Boxes.new (w : World) (a b : Nat → Int × Int) (ha : Small16 a) (hb : Small16 b) : Boxes w a b ((w.alloc (.cells #[.int .i16 (a 0).1, .int .i16 (a 0).2, .int .i16 (a 1).1, .int .i16 (a 1).2, .int .i16 (a 2).1, .int .i16 (a 2).2, .int .i16 (a 3).1, .int .i16 (a 3).2] 69)).alloc
    (.cells #[.int .i16 (b 0).1, .int .i16 (b 0).2, .int .i16 (b 1).1, .int .i16 (b 1).2, .int .i16 (b 2).1, .int .i16 (b 2).2, .int .i16 (b 3).1, .int .i16 (b 3).2] 69)) := by
  refine ⟨((Below.refl _ w).alloc (Nat.le_refl _) _).alloc (by simp) _, Pairs.new ha ?_, Pairs.new hb ?_⟩
  · exact (Below.heap_alloc _ _ _ (by simp)).trans (World.alloc_heap_new w _)
  · have h := World.alloc_heap_new (w.alloc (.cells #[.int .i16 (a 0).1, .int .i16 (a 0).2, .int .i16 (a 1).1, .int .i16 (a 1).2, .int .i16 (a 2).1, .int .i16 (a 2).2, .int .i16 (a 3).1, .int .i16 (a 3).2] 69)) (.cells #[.int .i16 (b 0).1, .int .i16 (b 0).2, .int .i16 (b 1).1, .int .i16 (b 1).2, .int .i16 (b 2).1, .int .i16 (b 2).2, .int .i16 (b 3).1, .int .i16 (b 3).2] 69)
    rwa [World.size_alloc] at h
end Go.Proofs.Ytmhfdjognikilaa
