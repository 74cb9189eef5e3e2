/- Layer 16 (numeric), products of polynomials: the iterator of slices.Backward at numbers. -/
import Derived.Test.YtmhfdjognikilaaProC
import Derived.RangeFuncNested
import Derived.RangeFuncBound
import Derived.RangeFuncCalls
import Derived.RangeFuncLeaves
import Derived.Shelf.Abstract
import Derived.OwnWalkIn
import Derived.TacticsInMore
import Derived.LoopNIn
import Derived.LoopIn
import Derived.Maps.AppendAt
namespace Go.Proofs.Ytmhfdjognikilaa
open Go.RowKit Go.Shelf

attribute [local go_sem] Oper.semAt_some

/-- Below n all blocks but r are as they were. -/
structure BB (n r : Nat) (w w' : World) : Prop where
  os : w'.os = w.os
  tape : w'.tape = w.tape
  output : w'.output = w.output
  size : w.heap.size ≤ w'.heap.size
  block : ∀ k, k < n → k ≠ r → w'.heap[k]? = w.heap[k]?
theorem BB.refl (n r : Nat) (w : World) : BB n r w w := ⟨rfl, rfl, rfl, Nat.le_refl _, fun _ _ _ => rfl⟩
theorem BB.trans {n r : Nat} {a b c : World} (h : BB n r a b) (k : BB n r b c) : BB n r a c :=
  ⟨k.os.trans h.os, k.tape.trans h.tape, k.output.trans h.output, Nat.le_trans h.size k.size, fun i hi hr => (k.block i hi hr).trans (h.block i hi hr)⟩
theorem BB.of_below {n m r : Nat} {a b : World} (h : Below m a b) (hn : n ≤ m) : BB n r a b := ⟨h.os, h.tape, h.output, h.size, fun k hk _ => h.block k (by omega)⟩
theorem BB.below {n m r : Nat} {a b : World} (h : BB n r a b) (hn : m ≤ n) (hr : m ≤ r) : Below m a b := ⟨h.os, h.tape, h.output, h.size, fun k hk => h.block k (by omega) (by omega)⟩
theorem BB.setCell {n r : Nat} {a w : World} (h : BB n r a w) (o : Nat) (u : Value) : BB n r a (w.setCell ⟨r, o, none⟩ u) := by
  have hb := (Below.refl 0 w).setCell (p := ⟨r, o, none⟩) (Nat.zero_le _) u
  exact ⟨hb.os.trans h.os, hb.tape.trans h.tape, hb.output.trans h.output, Nat.le_trans h.size hb.size, fun k hk hr => (Below.heap_setCell w ⟨r, o, none⟩ u k hr).trans (h.block k hk hr)⟩
theorem BB.drew {n r : Nat} {a w : World} (h : BB n r a w) : BB n r a w.drew := ⟨h.os, h.tape, h.output, h.size, h.block⟩
theorem BB.grown {n r : Nat} {a w w' : World} {row : Option Nat} (h : BB n r a w) (hg : w.grownBy w' row) (hn : n ≤ w.heap.size) (hr : ∀ k, row = some k → n ≤ k) : BB n r a w' := by
  have hb := (Below.refl n w).grown hg hn hr
  exact ⟨hb.os.trans h.os, hb.tape.trans h.tape, hb.output.trans h.output, Nat.le_trans h.size hb.size, fun k hk hr' => (hb.block k hk).trans (h.block k hk hr')⟩
theorem BB.cell {n r : Nat} {w w' : World} (h : BB n r w w') {p : Addr} (hp : p.block < n) (hr : p.block ≠ r) : w'.cell? p = w.cell? p := World.cell?_of_block (w := w) (h.block p.block hp hr)
theorem BB.frozen {n r : Nat} {w w' : World} (h : BB n r w w') {p : Addr} (hp : p.block < n) (hr : p.block ≠ r) : w'.frozen? p = w.frozen? p := World.frozen?_of_block (w := w) (h.block p.block hp hr)
theorem bb_put {n r : Nat} {w : World} (hn : n ≤ w.heap.size) (W : World) (l : Nat) (o o' : Obj) (hl : w.heap.size ≤ l) (h : W.heap[l]? = some o) (_ : o.isCells = false) (_ : o.isWalk = false) : BB n r W (W.putObj l o') :=
  (BB.refl n r W).grown (grownBy_putObj' W l o') (by have := (Array.getElem?_eq_some_iff.1 h).1; omega) (fun k e => by cases e; omega)
theorem ownFrom_bb {β : Type} {n r B : Nat} {w₀ : World} (hn : n ≤ w₀.heap.size) (hB : n ≤ B) : OwnFrom B (fun (_ : β) W => BB n r w₀ W) :=
  fun _ _ _ _ hs hg hr => hs.grown hg (Nat.le_trans hn hs.size) (fun k e => Nat.le_trans hB (hr k e).1)

set_option maxRecDepth 100000 in
set_option maxHeartbeats 2000000 in
/-- The closure of slices.Backward. -/
theorem back1_in {α : Type} (F : Fence) (n : Nat) (h79 : F.fn 79) (hro : F.round = none) (hn : 1 ≤ n) (l Bl n₀ r g m cap : Nat) (zs : Nat → Nat × Nat) (elt : Nat → α) (encs : α → Array Value) (henc : ∀ j, encs (elt j) = #[.int .i64 j, numV (zs j).1 (zs j).2])
    (hm : m ≤ 100) (hg : g < n₀ ∧ g ≠ r) (hl : Bl < n₀ ∧ Bl ≠ r) (J Jx : List α → World → Prop)
    (hY : ∀ pre x W, J pre W → pre.length < m → YieldAt F (n - 1) Try.prog l (encs x) W fun e W' =>
      (e = .returned (.bool true) ∧ J (pre ++ [x]) W' ∧ BB n₀ r W W') ∨ (e = .returned (.bool false) ∧ Jx (pre ++ [x]) W'))
    (W : World) (hBl : W.cell? ⟨Bl, 0, none⟩ = some (.slice (some ⟨g, 0, none⟩) m cap)) (hc : ∀ j, j < m → W.cell? ⟨g, j * 2, none⟩ = some (.int .u32 (zs j).1) ∧ W.cell? ⟨g, j * 2 + 1, none⟩ = some (.int .u32 (zs j).2)) (h0 : J [] W) :
    CallsIn F n Try.prog 79 #[.func (.yield l) #[] #[], .pointer (some ⟨Bl, 0, none⟩)] W fun e W' => (∃ v, e = .returned v) ∧
      ((∃ ys, ys = upto (fun t => elt (m - 1 - t)) m ∧ J ys W') ∨ (∃ pre, True ∧ Jx pre W')) := by
  refine callsIn_of_wp Try.func79 rfl h79 ?_ hro
  simp only [Try.ntmps79, List.size_toArray, List.length_cons, List.length_nil, Nat.reduceAdd, Nat.reduceSub, Array.replicate_succ, Array.replicate_zero, List.push_toArray, List.append_toArray, List.nil_append, List.cons_append]
  gi_wp2
  gi_loopw [3] (fun i wr => ∃ k q : Nat, k + q = m ∧ i = .int .i64 ((q : Int) - 1) ∧ J (upto (fun t => elt (m - 1 - t)) k) wr ∧ BB n₀ r W wr)
    (fun i _ => (intOf i + 1).toNat)
  case atStart => exact ⟨0, m, by omega, rfl, h0, BB.refl _ _ _⟩
  case round =>
    obtain ⟨k, q, hk, rfl, hJs, hnx⟩ := hrel
    have hcl : wr.cell? ⟨Bl, 0, none⟩ = some (.slice (some ⟨g, 0, none⟩) m cap) := (hnx.cell (p := ⟨Bl, 0, none⟩) hl.1 hl.2).trans hBl
    clear hBl
    cases q with
    | zero =>
      obtain rfl : k = m := by omega
      clear hc hY
      rw [show (((0 : Nat) : Int) - 1) = -1 from rfl]
      gi_wp2
      go_end0
      exact ⟨⟨_, rfl⟩, .inl ⟨_, rfl, hJs⟩⟩
    | succ q =>
      rw [show (((q + 1 : Nat) : Int) - 1) = (q : Int) by omega]
      have hq : q < m := by omega
      obtain ⟨fn, tmps, assign, body, hy, hR⟩ := hY _ (elt q) wr hJs (by rw [upto_length]; omega)
      rw [henc] at hy
      have c1 : wr.cell? ⟨g, q * 2, none⟩ = some (.int .u32 (zs q).1) := (hnx.cell (p := ⟨g, q * 2, none⟩) hg.1 hg.2).trans (hc q hq).1
      have c2 : wr.cell? ⟨g, q * 2 + 1, none⟩ = some (.int .u32 (zs q).2) := (hnx.cell (p := ⟨g, q * 2 + 1, none⟩) hg.1 hg.2).trans (hc q hq).2
      clear hc hY
      gi_wp2
      refine hR.mono ?_
      rintro e W3 (⟨rfl, hJ3, hk3⟩ | ⟨rfl, hJx3⟩)
      · gi_wp2
        go_roundw
        case rel => exact ⟨k + 1, q, by omega, by simp, by rw [upto_succ, show m - 1 - k = q by omega]; exact hJ3, hnx.trans hk3⟩
        case measure => simp [intOf]
      · gi_wp2
        refine bodyPost_ret (results_none rfl _ _ _) rfl ?_
        exact ⟨⟨_, rfl⟩, .inr ⟨_, trivial, hJx3⟩⟩

theorem back_stops {α : Type} (F : Fence) (n : Nat) (h79 : F.fn 79) (hro : F.round = none) (hn : 1 ≤ n) (Bl n₀ r g m cap : Nat) (zs : Nat → Nat × Nat) (elt : Nat → α) (encs : α → Array Value) (henc : ∀ j, encs (elt j) = #[.int .i64 j, numV (zs j).1 (zs j).2])
    (hm : m ≤ 100) (hg : g < n₀ ∧ g ≠ r) (hl : Bl < n₀ ∧ Bl ≠ r) (w : World) (hn₀ : n₀ ≤ w.heap.size) (hBl : w.cell? ⟨Bl, 0, none⟩ = some (.slice (some ⟨g, 0, none⟩) m cap)) (hc : ∀ j, j < m → w.cell? ⟨g, j * 2, none⟩ = some (.int .u32 (zs j).1) ∧ w.cell? ⟨g, j * 2 + 1, none⟩ = some (.int .u32 (zs j).2)) :
    SeqStopsK F n Try.prog 79 #[.pointer (some ⟨Bl, 0, none⟩)] encs (BB n₀ r) (fun ys => ys = upto (fun t => elt (m - 1 - t)) m) (fun _ => True) m w := fun l J Jx W hW _ _ hY h0 =>
  back1_in F n h79 hro hn l Bl n₀ r g m cap zs elt encs henc hm hg hl J Jx hY W ((hW.cell (p := ⟨Bl, 0, none⟩) (by simp; omega)).trans hBl)
    (fun j hj => ⟨(hW.cell (p := ⟨g, j * 2, none⟩) (by simp; omega)).trans (hc j hj).1, (hW.cell (p := ⟨g, j * 2 + 1, none⟩) (by simp; omega)).trans (hc j hj).2⟩) h0

theorem backward_any (w : World) (s : Value) (hs : ∃ a n c, s = .slice a n c) : Calls Try.prog 61 #[s] w fun e w' => e = .returned (.func (.func 79) #[] #[.pointer (some ⟨w.heap.size, 0, none⟩)]) ∧ w' = w.alloc (.cells #[s] 24) := by
  obtain ⟨a, n, c, rfl⟩ := hs
  go_enter Try.func61, Try.ntmps61
  go_wp2
  go_ret
  exact ⟨rfl, rfl⟩
end Go.Proofs.Ytmhfdjognikilaa
