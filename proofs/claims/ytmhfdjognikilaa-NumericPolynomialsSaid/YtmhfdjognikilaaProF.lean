/- Layer 16 (numeric), products of polynomials: the law's own closure that makes the coefficients. -/
import Derived.Test.YtmhfdjognikilaaProE
import Derived.Outline
namespace Go.Proofs.Ytmhfdjognikilaa
open Go.RowKit Go.Shelf

/-- Three pairs that came in. -/
abbrev trip (l : Nat → Int × Int) : Value := .agg #[.int .i8 (l 0).1, .int .i8 (l 0).2, .int .i8 (l 1).1, .int .i8 (l 1).2, .int .i8 (l 2).1, .int .i8 (l 2).2]
/-- They are numbers of eight bits. -/
def Small8 (l : Nat → Int × Int) : Prop := ∀ j, j < 3 → (-128 ≤ (l j).1 ∧ (l j).1 ≤ 127) ∧ (-128 ≤ (l j).2 ∧ (l j).2 ≤ 127)
/-- The coefficients. -/
def coef (l : Nat → Int × Int) (j : Nat) : Cx := ((l j).1.tmod 10, (l j).2.tmod 10)
def wds (l : Nat → Int × Int) (j : Nat) : Nat × Nat := (floatOfInt .f32 ((l j).1.tmod 10), floatOfInt .f32 ((l j).2.tmod 10))
theorem tmod_le (n : Int) (k : Nat) (hk : 0 < k) : -((k - 1 : Nat) : Int) ≤ n.tmod k ∧ n.tmod k ≤ ((k - 1 : Nat) : Int) := by
  have h : (n.tmod k).natAbs ≤ k - 1 := by
    rw [Int.natAbs_tmod]
    have := Nat.mod_lt n.natAbs (show 0 < (k : Int).natAbs by omega)
    omega
  omega
theorem coef_bd (l : Nat → Int × Int) (j : Nat) : Bd 9 (coef l j) := ⟨tmod_le _ 10 (by decide), tmod_le _ 10 (by decide)⟩
theorem wds_cv (l : Nat → Int × Int) (j : Nat) : CV (wds l j) (coef l j) := by
  obtain ⟨h1, h2⟩ := (coef_bd l j).lt (by decide)
  exact ⟨val_int _ h1, val_int _ h2⟩

/-- The cells of k numbers. -/
def cellsN (zs : Nat → Nat × Nat) (k : Nat) : List Value := (List.range k).flatMap fun j => [.int .u32 (zs j).1, .int .u32 (zs j).2]
theorem cellsN_succ (zs : Nat → Nat × Nat) (k : Nat) : cellsN zs (k + 1) = cellsN zs k ++ [.int .u32 (zs k).1, .int .u32 (zs k).2] := by simp [cellsN, List.range_succ]

theorem add_zero (b j : Nat) : (⟨b, 0, none⟩ : Addr).add j = ⟨b, j, none⟩ := by
  cases j <;> simp [Addr.add]
theorem cellsN_get (zs : Nat → Nat × Nat) : ∀ n j, j < n → (cellsN zs n)[j * 2]? = some (.int .u32 (zs j).1) ∧ (cellsN zs n)[j * 2 + 1]? = some (.int .u32 (zs j).2)
  | 0, j, h => by omega
  | n + 1, j, h => by
    have hl : (cellsN zs n).length = n * 2 := by
      clear h
      induction n with
      | zero => rfl
      | succ n ih => rw [cellsN_succ, List.length_append, ih]; simp; omega
    rw [cellsN_succ]
    by_cases hj : j < n
    · rw [List.getElem?_append_left (by omega), List.getElem?_append_left (by omega)]
      exact cellsN_get zs n j hj
    · obtain rfl : j = n := by omega
      rw [List.getElem?_append_right (by omega), List.getElem?_append_right (by omega), hl, Nat.sub_self, show j * 2 + 1 - j * 2 = 1 by omega]
      exact ⟨rfl, rfl⟩
theorem LN.of_own {W : World} {base n : Nat} {v : Value} {zs : Nat → Nat × Nat} {c : Nat → Cx} (h : W.ownsRow base 32 2 v n (cellsN zs n)) (h0 : n = 0 → v = .slice none 0 0) (hc : ∀ j, j < n → CV (zs j) (c j)) : LN W v n c := by
  refine ⟨zs, ?_, hc⟩
  by_cases hn : n = 0
  · exact .inl ⟨hn, h0 hn⟩
  · rcases h.2 with ⟨-, h1⟩ | ⟨g, cap, cur, rfl, -, hg, hle, -⟩
    · exact absurd h1 hn
    · refine .inr ⟨by omega, g, cap, rfl, hle, (Array.getElem?_eq_some_iff.1 hg).1, fun j hj => ?_⟩
      have hk := h.cells (g := g) rfl
      obtain ⟨e1, e2⟩ := cellsN_get zs n j hj
      have k1 := hk _ _ e1
      have k2 := hk _ _ e2
      rw [add_zero] at k1 k2
      exact ⟨k1, k2⟩

theorem two_new (w : World) (a b : Value) (t : TypeId) : ∀ (j : Nat) (u : Value), [a, b][j]? = some u → (w.alloc (.cells #[a, b] t)).cell? ((⟨w.heap.size, 0, none⟩ : Addr).add j) = some u := by
  intro j u h
  have hh := World.alloc_heap_new w (.cells #[a, b] t)
  rw [add_zero, (cell_cells hh).1]
  simpa using h

set_option maxRecDepth 100000 in
set_option maxHeartbeats 4000000 in
theorem cut_any (w : World) (l : Nat → Int × Int) (k : Int) (hl : Small8 l) (hk : 0 ≤ k ∧ k < 256) :
    Calls Try.prog 45 #[trip l, .int .u8 k] w fun e W' => ∃ v, e = .returned v ∧ LN W' v (k % 4).toNat (coef l) ∧ Below w.heap.size w W' := by
  obtain ⟨hk1, hk2⟩ := hk
  obtain ⟨N, hN⟩ : ∃ N : Nat, k % 4 = (N : Int) := ⟨(k % 4).toNat, by omega⟩
  have hN3 : N ≤ 3 := by omega
  rw [hN, Int.toNat_natCast]
  have ha : Try.prog.arrayLen 77 = 3 := by kernel_rfl
  have hsl : ∀ (b : Nat) (w : World), (Instr.sliceAt 77 (.pointer (some ⟨b, 0, none⟩)) none (some (.int .u8 (N : Int))) none).run Try.prog w = .ok (.slice (some ⟨b, 0, none⟩) N 3) w := by
    intro b w
    rw [run_sliceAt_array_h (P := Try.prog) (w := w) (t := 77) (a := ⟨b, 0, none⟩) (by kernel_rfl) .u8 N (by omega) (by rw [ha]; omega), ha]
    have hz : (sizeOf (Try.prog.elem 77)).run Try.prog w = .ok 2 w := by kernel_rfl
    rw [hz]
    simp [Result.andThen, slicedAt, Addr.add]
  clear ha
  have hbx : ((w.alloc (.cells #[.int .i8 (l 0).1, .int .i8 (l 0).2, .int .i8 (l 1).1, .int .i8 (l 1).2, .int .i8 (l 2).1, .int .i8 (l 2).2] 77)).heap[w.heap.size]? = some (.cells #[.int .i8 (l 0).1, .int .i8 (l 0).2, .int .i8 (l 1).1, .int .i8 (l 1).2, .int .i8 (l 2).1, .int .i8 (l 2).2] 77)) := World.alloc_heap_new w _
  have hB0 : Below w.heap.size w (w.alloc (.cells #[.int .i8 (l 0).1, .int .i8 (l 0).2, .int .i8 (l 1).1, .int .i8 (l 1).2, .int .i8 (l 2).1, .int .i8 (l 2).2] 77)) := (Below.refl _ w).alloc (Nat.le_refl _) _
  have hn0 := World.ownsRow_nil (w.alloc (.cells #[.int .i8 (l 0).1, .int .i8 (l 0).2, .int .i8 (l 1).1, .int .i8 (l 1).2, .int .i8 (l 2).1, .int .i8 (l 2).2] 77)) (w.heap.size + 1) 32 2
  obtain ⟨i0, hi, hz0, hz1, hz2⟩ := info_parts info32
  go_enter Try.func45, Try.ntmps45
  go_wp2_with fail
  have HN := Lib.hid hN
  clear hN
  go_loopw [5, 12] (fun v i W => ∃ j : Nat, i = .int .i64 j ∧ j ≤ N ∧ W.ownsRow (w.heap.size + 1) 32 2 v j (cellsN (wds l) j) ∧ (j = 0 → v = .slice none 0 0) ∧ Below w.heap.size w W ∧ w.heap.size < W.heap.size ∧
      W.heap[w.heap.size]? = some (.cells #[.int .i8 (l 0).1, .int .i8 (l 0).2, .int .i8 (l 1).1, .int .i8 (l 1).2, .int .i8 (l 2).1, .int .i8 (l 2).2] 77)) (fun _ i _ => N - (intOf i).toNat)
  case atStart => exact ⟨0, rfl, by omega, hn0, fun _ => rfl, hB0, by simp, hbx⟩
  case round =>
    obtain ⟨j, rfl, hj, hown, hnil, hB, hlt0, hbox⟩ := hrel
    clear hn0 hB0 hbx
    by_cases hlt : j < N
    · have c0 : wr.cell? ⟨w.heap.size, j * 2, none⟩ = some (.int .i8 (l j).1) := by
        rw [(cell_cells hbox).1]
        have : j = 0 ∨ j = 1 ∨ j = 2 := by omega
        rcases this with rfl | rfl | rfl <;> rfl
      have c1 : wr.cell? ⟨w.heap.size, j * 2 + 1, none⟩ = some (.int .i8 (l j).2) := by
        rw [(cell_cells hbox).1]
        have : j = 0 ∨ j = 1 ∨ j = 2 := by omega
        rcases this with rfl | rfl | rfl <;> rfl
      obtain ⟨⟨l1, l2⟩, l3, l4⟩ := hl j (by omega)
      have m1 : Num (floatOfInt .f32 ((l j).1.tmod 10)) := (wds_cv l j).num.1
      have m2 : Num (floatOfInt .f32 ((l j).2.tmod 10)) := (wds_cv l j).num.2
      have HW := Lib.hid (show cellsN (wds l) (j + 1) = cellsN (wds l) j ++ [.int .u32 (floatOfInt .f32 ((l j).1.tmod 10)), .int .u32 (floatOfInt .f32 ((l j).2.tmod 10))] from cellsN_succ _ _)
      clear hsl hl
      generalize (l j).1 = x1 at *
      generalize (l j).2 = x2 at *
      go_wp2_with fail
      refine (mk_any _ _ _ m1 m2).mono ?_
      rintro e w1 ⟨rfl, hB1⟩
      generalize floatOfInt .f32 (x1.tmod 10) = z1 at *
      generalize floatOfInt .f32 (x2.tmod 10) = z2 at *
      have hA : Below wr.heap.size wr (wr.alloc (.cells #[.int .i8 x1, .int .i8 x2] 76)) := (Below.refl _ _).alloc (Nat.le_refl _) _
      have hW1 : Below wr.heap.size wr w1 := hA.trans (hB1.mono (by simp))
      have hown1 : w1.ownsRow (w.heap.size + 1) 32 2 u5 j (cellsN (wds l) j) := hown.kept ⟨hW1.os, hW1.tape, hW1.output, hW1.size, fun k hk _ => hW1.block k hk⟩ (row := none) (by
        cases ho : u5.ownBlock with
        | none => exact .inl rfl
        | some x => exact .inr (by simp))
      have hbox1 := (hW1.block w.heap.size hlt0).trans hbox
      have hb1 : Below w.heap.size w w1 := hB.trans (hW1.mono hB.size)
      have hlt1 : w.heap.size < w1.heap.size := Nat.lt_of_lt_of_le hlt0 hW1.size
      clear hA hW1 hown hbox hB hB1 c0 c1 hlt0 m1 m2
      go_wp2_with (at_builtin; refine wpList_append_own _ rfl _ _ 24 rfl (w.heap.size + 1) 32 i0 (.agg #[.int .u32 0, .int .u32 0]) 2 8 Try.underlying24 hi hz0 hz1 hz2 rfl (by decide) _ _ _ rfl (hown1.alloc _) ⟨w1.heap.size, 0, none⟩ 1 1 [.int .u32 z1, .int .u32 z2] rfl rfl (two_new _ _ _ _) (by simp [Value.oneCell']) (by unfold maxLen; omega) (by omega) (by simp; omega) ?_; intro v' w2 hown2 hgrow hnil2)
      have hg2 : w2.heap[w.heap.size]? = w1.heap[w.heap.size]? := by
        refine (hgrow.block w.heap.size (by simp; omega) (fun e => ?_)).trans (Below.heap_alloc _ _ _ hlt1)
        have := hown1.lt w.heap.size e.symm
        omega
      have hsz := hgrow.size
      simp at hsz
      have hb2 : Below w.heap.size w w2 := (hb1.alloc (Nat.le_of_lt hlt1) _).grown hgrow (by simp; omega) (fun x hx => by have := hown1.lt x hx; omega)
      go_roundw
      case rel => exact ⟨j + 1, by simp, by omega, by rw [HW.out]; exact hown2, fun h => by omega, hb2, by omega, hg2.trans hbox1⟩
      case measure => simp [intOf]; omega
    · obtain rfl : j = N := by omega
      clear hsl hl
      go_wp2
      go_ret
      exact ⟨_, rfl, .of_own hown hnil (fun i _ => wds_cv l i), hB⟩
end Go.Proofs.Ytmhfdjognikilaa
