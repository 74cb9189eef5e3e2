/- Layer 16 (numeric): the iterator over each second element, and what slices.Collect makes of it. -/
import Derived.Test.YtmhfdjognikilaaFloB
import Derived.RangeFuncBox
import Derived.RangeFuncLeaves
import Derived.Shelf.Abstract
import Derived.OwnWalkIn
import Derived.TacticsInMore
import Derived.LoopNIn
import Derived.LoopIn
import Derived.Maps.AppendAt
namespace Go.Proofs.Ytmhfdjognikilaa
open Go.RowKit Go.Shelf

attribute [local go_sem] Oper.semAt_some

/-- A value of the package's transforms. -/
abbrev cV (x : Nat × Nat) : Value := .complex .f32 x.1 x.2

def upto {α : Type} (f : Nat → α) (k : Nat) : List α := (List.range k).map f
theorem upto_succ {α : Type} (f : Nat → α) (k : Nat) : upto f (k + 1) = upto f k ++ [f k] := by simp [upto, List.range_succ]
theorem upto_length {α : Type} (f : Nat → α) (k : Nat) : (upto f k).length = k := by simp [upto]

set_option maxRecDepth 100000 in
set_option maxHeartbeats 2000000 in
/-- The closure of everySecond: the elements of a list of 2 h from fr (0 or 1) on, each second one. -/
theorem every1_in (F : Fence) (n : Nat) (h88 : F.fn 88) (hro : F.round = none) (hn : 1 ≤ n) (l Bf Bl n₀ b h cap fr : Nat) (zs : Nat → Nat × Nat) (hfr : fr ≤ 1) (hh : h ≤ 100) (hb : b < n₀) (hl : Bl < n₀) (J Jx : List (Nat × Nat) → World → Prop)
    (hY : ∀ pre x W, J pre W → pre.length < h → YieldAt F (n - 1) Try.prog l #[cV x] W fun e W' =>
      (e = .returned (.bool true) ∧ J (pre ++ [x]) W' ∧ Below n₀ W W') ∨ (e = .returned (.bool false) ∧ Jx (pre ++ [x]) W'))
    (W : World) (hBf : W.cell? ⟨Bf, 0, none⟩ = some (.int .i64 fr)) (hBl : W.cell? ⟨Bl, 0, none⟩ = some (.slice (some ⟨b, 0, none⟩) (2 * h) cap)) (hc : ∀ j, j < 2 * h → W.cell? ⟨b, j, none⟩ = some (cV (zs j))) (h0 : J [] W) :
    CallsIn F n Try.prog 88 #[.func (.yield l) #[] #[], .pointer (some ⟨Bf, 0, none⟩), .pointer (some ⟨Bl, 0, none⟩)] W fun e W' => (∃ v, e = .returned v) ∧
      ((∃ ys, ys = upto (fun j => zs (fr + 2 * j)) h ∧ J ys W') ∨ (∃ pre, (∃ k, k ≤ h ∧ pre = upto (fun j => zs (fr + 2 * j)) k) ∧ Jx pre W')) := by
  refine callsIn_of_wp Try.func88 rfl h88 ?_ hro
  simp only [Try.ntmps88, List.size_toArray, List.length_cons, List.length_nil, Nat.reduceAdd, Nat.reduceSub, Array.replicate_succ, Array.replicate_zero, List.push_toArray, List.append_toArray, List.nil_append, List.cons_append]
  gi_wp2
  gi_loopw [4] (fun i wr => ∃ k : Nat, k ≤ h ∧ i = .int .i64 ((fr + 2 * k : Nat) : Int) ∧ J (upto (fun j => zs (fr + 2 * j)) k) wr ∧ Below n₀ W wr)
    (fun i _ => 2 * h + 1 - (intOf i).toNat)
  case atStart => exact ⟨0, Nat.zero_le _, rfl, h0, Below.refl _ _⟩
  case round =>
    obtain ⟨k, hk, rfl, hJs, hnx⟩ := hrel
    have hcl : wr.cell? ⟨Bl, 0, none⟩ = some (.slice (some ⟨b, 0, none⟩) (2 * h) cap) := (hnx.cell (p := ⟨Bl, 0, none⟩) hl).trans hBl
    clear hBf hBl
    by_cases hlt : k < h
    · obtain ⟨fn, tmps, assign, body, hy, hR⟩ := hY _ (zs (fr + 2 * k)) wr hJs (by rw [upto_length]; exact hlt)
      have hcx : wr.cell? ⟨b, fr + 2 * k, none⟩ = some (cV (zs (fr + 2 * k))) := (hnx.cell (p := ⟨b, fr + 2 * k, none⟩) hb).trans (hc _ (by omega))
      clear hc hY
      gi_wp2
      refine hR.mono ?_
      rintro e W3 (⟨rfl, hJ3, hk3⟩ | ⟨rfl, hJx3⟩)
      · gi_wp2
        go_roundw
        case rel => exact ⟨k + 1, by omega, by simp; omega, by rw [upto_succ]; exact hJ3, hnx.trans hk3⟩
        case measure => simp [intOf]; omega
      · gi_wp2
        refine bodyPost_ret (results_none rfl _ _ _) rfl ?_
        exact ⟨⟨_, rfl⟩, .inr ⟨_, ⟨k + 1, by omega, (upto_succ _ _).symm⟩, hJx3⟩⟩
    · obtain rfl : k = h := by omega
      clear hc hY
      gi_wp2
      go_end0
      exact ⟨⟨_, rfl⟩, .inl ⟨_, rfl, hJs⟩⟩

/-- A slice of 2 h values lies in a block below n₀. -/
theorem every_stops (F : Fence) (n : Nat) (h88 : F.fn 88) (hro : F.round = none) (hn : 1 ≤ n) (Bf Bl n₀ b h cap fr : Nat) (zs : Nat → Nat × Nat) (hfr : fr ≤ 1) (hh : h ≤ 100) (hb : b < n₀) (hl : Bl < n₀) (hf : Bf < n₀) (w : World) (hn₀ : n₀ ≤ w.heap.size)
    (hBf : w.cell? ⟨Bf, 0, none⟩ = some (.int .i64 fr)) (hBl : w.cell? ⟨Bl, 0, none⟩ = some (.slice (some ⟨b, 0, none⟩) (2 * h) cap)) (hc : ∀ j, j < 2 * h → w.cell? ⟨b, j, none⟩ = some (cV (zs j))) :
    SeqStopsK F n Try.prog 88 #[.pointer (some ⟨Bf, 0, none⟩), .pointer (some ⟨Bl, 0, none⟩)] (fun x : Nat × Nat => #[cV x]) (Below n₀) (fun ys => ys = upto (fun j => zs (fr + 2 * j)) h) (fun pre => ∃ k, k ≤ h ∧ pre = upto (fun j => zs (fr + 2 * j)) k) h w := fun l J Jx W hW _ _ hY h0 =>
  every1_in F n h88 hro hn l Bf Bl n₀ b h cap fr zs hfr hh hb hl J Jx hY W ((hW.cell (p := ⟨Bf, 0, none⟩) (by simp; omega)).trans hBf) ((hW.cell (p := ⟨Bl, 0, none⟩) (by simp; omega)).trans hBl)
    (fun j hj => (hW.cell (p := ⟨b, j, none⟩) (by simp; omega)).trans (hc j hj)) h0

theorem info83 : (Try.prog.info? 83).map (fun i => (i.zero, i.size, i.bytes)) = some (some (.complex .f32 0 0), 1, 8) := by kernel_rfl

set_option maxRecDepth 100000 in
set_option maxHeartbeats 2000000 in
/-- AppendSeq(nil, everySecond(l, fr)). -/
theorem appendSeq_in (F : Fence) (n : Nat) (h87 : F.fn 87) (h88 : F.fn 88) (hro : F.round = none) (hn : 3 ≤ n) (Bf Bl b h cap fr : Nat) (zs : Nat → Nat × Nat) (hfr : fr ≤ 1) (hh : h ≤ 100) (w : World) (hb : b < w.heap.size) (hl : Bl < w.heap.size) (hf : Bf < w.heap.size)
    (hBf : w.cell? ⟨Bf, 0, none⟩ = some (.int .i64 fr)) (hBl : w.cell? ⟨Bl, 0, none⟩ = some (.slice (some ⟨b, 0, none⟩) (2 * h) cap)) (hc : ∀ j, j < 2 * h → w.cell? ⟨b, j, none⟩ = some (cV (zs j))) :
    CallsIn F n Try.prog 87 #[.slice none 0 0, .func (.func 88) #[] #[.pointer (some ⟨Bf, 0, none⟩), .pointer (some ⟨Bl, 0, none⟩)]] w fun e W' => ∃ v, e = .returned v ∧ W'.ownsRow w.heap.size 83 1 v h ((upto (fun j => zs (fr + 2 * j)) h).map cV) ∧ Below w.heap.size w W' := by
  have h1 : 1 ≤ n := by omega
  obtain ⟨i0, hi, hz0, hz1, hz2⟩ := info_parts info83
  refine callsIn_of_wp_marks Try.func87 rfl h87 ?_ hro
  simp only [Try.ntmps87, List.size_toArray, List.length_cons, List.length_nil, Nat.reduceAdd, Nat.reduceSub, Array.replicate_succ, Array.replicate_zero, List.push_toArray, List.append_toArray, List.nil_append, List.cons_append]
  gi_wp2
  have bO := Boxed.new w 94 (.slice none 0 0)
  have hB0 : Below w.heap.size w (w.alloc (.cells #[.slice none 0 0] 94)) := (Below.refl _ w).alloc (Nat.le_refl _) _
  refine wpIn_rangeFunc_ownG hro h1 (gf := 88) (lb := #[.pointer (some ⟨Bf, 0, none⟩), .pointer (some ⟨Bl, 0, none⟩)]) rfl h88 (enters_of Try.func88 (by kernel_rfl) rfl)
    (every_stops F (n - 1) h88 hro (by omega) Bf Bl w.heap.size b h cap fr zs hfr hh hb hl hf (w.alloc (.cells #[.slice none 0 0] 94)) (by simp) ((hB0.cell (p := ⟨Bf, 0, none⟩) hf).trans hBf) ((hB0.cell (p := ⟨Bl, 0, none⟩) hl).trans hBl) (fun j hj => (hB0.cell (p := ⟨b, j, none⟩) hb).trans (hc j hj)))
    belowK_t (belowK_b (by simp)) (Below.refl _ _) (fun _ => rfl)
    (fun pre W => (∃ v, Boxed W w.heap.size 94 v ∧ W.ownsRow w.heap.size 83 1 v pre.length (pre.map cV) ∧ True) ∧ Below w.heap.size w W)
    (fun _ _ _ => False)
    (OwnFrom.and (Own.from (holdsRow_own w.heap.size w.heap.size 94 83 1 (fun pre : List (Nat × Nat) => pre.length) (fun pre => pre.map cV) (fun _ _ => True)) _) (ownFrom_below (Nat.le_refl _) (by simp)))
    (fun _ _ _ _ _ hs _ _ => hs)
    ⟨⟨_, bO, World.ownsRow_nil _ _ _ _, trivial⟩, hB0⟩
    (fun x => { tmps := #[.slice none 0 0, .func (.func 88) #[] #[.pointer (some ⟨Bf, 0, none⟩), .pointer (some ⟨Bl, 0, none⟩)], .pointer (some ⟨w.heap.size, 0, none⟩), undef, .slice none 0 0, cV x, .func (.func 88) #[] #[.pointer (some ⟨Bf, 0, none⟩), .pointer (some ⟨Bl, 0, none⟩)], cV x, undef, undef, undef, undef, undef], defers := [] }) ?assign ?body ?done ?stop
  case assign =>
    intro l x W K hK
    gi_wp2
    exact hK
  case body =>
    rintro l pre x W ⟨⟨v, hv, hrow, -⟩, hB⟩ hlt
    have hcv := hv.cell
    gi_wp2_with (gi_at_builtin; refine wpListIn_append_own _ rfl _ _ 94 rfl w.heap.size 83 i0 (.complex .f32 0 0) 1 8 Try.underlying94 hi hz0 hz1 hz2 rfl (by decide) _ _ _ rfl (hrow.alloc _) ⟨W.heap.size, 0, none⟩ 1 1 [cV x] rfl rfl (cell_one_new _ _ _) (by simp [Value.oneCell']) (by unfold maxLen; omega) (by omega) (by have := hB.size; simp; omega) ?_; intro v' w1 hown' hgrow _; obtain ⟨g', cap', rfl⟩ := ownsRow_succ hown'; obtain ⟨hv1, hv2, hr2, hk2, hb2⟩ := hv.appended (by decide) hrow hB.size (Nat.le_refl _) hown' hgrow; have hc1 := hv1.cell; have hf1 := hv1.frozen)
    exact ⟨hk2.from _, hb2, ⟨_, hv2, by simpa using hr2, trivial⟩, hB.trans hb2⟩
  case done =>
    rintro D ys W hD rfl ⟨⟨v, hv, hrow, -⟩, hB⟩ hK
    have hcv := hv.cell
    gi_wp2
    refine ⟨by simp, .inl ⟨_, _, rfl, run_takeDeferred hK, ?_⟩⟩
    rw [upto_length] at hrow
    exact ⟨_, results_tmp rfl _ _ _, v, rfl, ownsRow_putObj hrow _ hK rfl, hB.trans (belowK_b (w := w) (Nat.le_refl _) W D _ _ (by simp at hD; omega) hK rfl rfl)⟩
  case stop =>
    rintro D c pre W _ _ h _
    exact h.elim

end Go.Proofs.Ytmhfdjognikilaa
