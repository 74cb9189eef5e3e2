/- Layer 16 (numeric): the factors of transforms of 2 and 4 points, and the map that keeps them. -/
import Derived.Test.YtmhfdjognikilaaFloC
import Derived.Laws.AppendOwn
import Derived.Laws.MakeOwn
import Derived.Laws.OwnMore
namespace Go.Proofs.Ytmhfdjognikilaa
open Go.RowKit Go.Shelf

/-- The factors of a transform of n points. -/
def fac : List (Nat × Nat) := [(1065353216, 0), (0, 3212836864), (3212836864, 2147483648), (2147483648, 1065353216)]
def fac2 : List (Nat × Nat) := [(1065353216, 0), (3212836864, 2147483648)]

/-- A list of values in a block of its own. -/
def Row (W : World) (v : Value) (k : Nat) (zs : Nat → Nat × Nat) : Prop :=
  ∃ g cap, v = .slice (some ⟨g, 0, none⟩) k cap ∧ g < W.heap.size ∧ k ≤ cap ∧ ∀ j, j < k → W.cell? ⟨g, j, none⟩ = some (cV (zs j))

theorem turn_2 (w : World) : Is 80 #[.int .i64 2] w (.tuple #[.float .f64 13830554455654793216, .float .f64 0]) := by
  go_enter Try.func80, Try.ntmps80
  go_wp2
  go_ret2
  exact ⟨rfl, rfl⟩
theorem turn_4 (w : World) : Is 80 #[.int .i64 4] w (.tuple #[.float .f64 0, .float .f64 4607182418800017408]) := by
  go_enter Try.func80, Try.ntmps80
  go_wp2
  go_ret2
  exact ⟨rfl, rfl⟩

theorem conv (b r : Nat) (w : World) (h : floatToFloatBits .f64 b .f32 = some r) : (convert 88 29 (.float .f64 b)).run Try.prog w = .ok (.float .f32 r) w :=
  run_convert_float_float w 88 29 .f64 .f32 b r (by rw [Try.underlying88]; rfl) Try.underlying29 h
@[go_sem] theorem conv0 (w : World) : (convert 88 29 (.float .f64 0)).run Try.prog w = .ok (.float .f32 0) w := conv _ _ _ (by kernel_rfl)
@[go_sem] theorem conv1 (w : World) : (convert 88 29 (.float .f64 4607182418800017408)).run Try.prog w = .ok (.float .f32 1065353216) w := conv _ _ _ (by kernel_rfl)
@[go_sem] theorem convm (w : World) : (convert 88 29 (.float .f64 13830554455654793216)).run Try.prog w = .ok (.float .f32 3212836864) w := conv _ _ _ (by kernel_rfl)

theorem cj_2 (w : World) : Is 51 #[.complex .f32 3212836864 0] w (.complex .f32 3212836864 2147483648) := conjugate_any _ _ _ w (by kernel_rfl)
theorem cj_4 (w : World) : Is 51 #[.complex .f32 0 1065353216] w (.complex .f32 0 3212836864) := conjugate_any _ _ _ w (by kernel_rfl)
theorem fac_1 (w : World) : Is 49 #[.complex .f32 0 3212836864, .complex .f32 0 3212836864] w (.complex .f32 3212836864 2147483648) :=
  product_any _ _ _ _ 0 1065353216 2147483648 2147483648 _ _ w (by kernel_rfl) (by kernel_rfl) (by kernel_rfl) (by kernel_rfl) (by kernel_rfl) (by kernel_rfl)
theorem fac_2 (w : World) : Is 49 #[.complex .f32 3212836864 2147483648, .complex .f32 0 3212836864] w (.complex .f32 2147483648 1065353216) :=
  product_any _ _ _ _ 2147483648 0 1065353216 2147483648 _ _ w (by kernel_rfl) (by kernel_rfl) (by kernel_rfl) (by kernel_rfl) (by kernel_rfl) (by kernel_rfl)

theorem cells_2 (w : World) (a b : Value) (t : TypeId) : (w.alloc (.cells #[a, b] t)).cell? ⟨w.heap.size, 0, none⟩ = some a ∧ (w.alloc (.cells #[a, b] t)).cell? ⟨w.heap.size, 1, none⟩ = some b := by
  constructor <;> simp [go_sem]

set_option maxRecDepth 100000 in
theorem twiddles_2 (w : World) : Calls Try.prog 65 #[.int .i64 2] w fun e W' => ∃ v, e = .returned v ∧ Row W' v 2 (fun j => fac2.getD j (0, 0)) ∧ Below w.heap.size w W' := by
  go_enter Try.func65, Try.ntmps65
  go_wp2_with (first
    | (go_at_call 80; refine (turn_2 _).mono ?_; rintro e w' ⟨rfl, rfl⟩)
    | (go_at_call 51; refine (cj_2 _).mono ?_; rintro e w' ⟨rfl, rfl⟩))
  go_loop [6] (fun s => s = .slice (some ⟨w.heap.size, 0, none⟩) 2 2) (fun _ => 0)
  case atStart => rfl
  case round =>
    obtain rfl := hrel
    go_wp2
    go_ret
    refine ⟨_, rfl, ⟨w.heap.size, 2, rfl, by simp, by omega, ?_⟩, (Below.refl _ _).alloc (Nat.le_refl _) _⟩
    intro j hj
    obtain ⟨c0, c1⟩ := cells_2 w (.complex .f32 1065353216 0) (.complex .f32 3212836864 2147483648) 83
    have : j = 0 ∨ j = 1 := by omega
    rcases this with rfl | rfl
    · exact c0
    · exact c1

theorem ownsRow_row {W : World} {base k : Nat} {v : Value} {l : List (Nat × Nat)} (h : W.ownsRow base 83 1 v k (l.map cV)) (hk : 1 ≤ k) : Row W v k (fun j => l.getD j (0, 0)) := by
  obtain ⟨hl, h⟩ := h
  rcases h with ⟨_, rfl⟩ | ⟨g, cap, cur, rfl, hb, hg, hkc, hcm, hcs, htk⟩
  · omega
  · refine ⟨g, cap, rfl, (Array.getElem?_eq_some_iff.1 hg).1, hkc, ?_⟩
    intro j hj
    simp at hl hcs htk
    have h1 : cur.toList[j]? = some (cV (l.getD j (0, 0))) := by
      have h2 : (List.take k cur.toList)[j]? = (l.map cV)[j]? := by rw [htk]
      rw [List.getElem?_take_of_lt hj] at h2
      rw [h2]
      have : j < l.length := by omega
      simp [this, List.getD_eq_getElem?_getD]
    simp [World.cell?, hg]
    simpa using h1

theorem row_start (w : World) (a b : Value) : (w.alloc (.cells #[a, b] 83)).ownsRow w.heap.size 83 1 (.slice (some ⟨w.heap.size, 0, none⟩) 2 2) 2 [a, b] :=
  ⟨rfl, .inr ⟨w.heap.size, 2, #[a, b], rfl, Nat.le_refl _, World.alloc_heap_new w _, Nat.le_refl _, by unfold maxLen; omega, rfl, rfl⟩⟩

set_option maxRecDepth 100000 in
set_option maxHeartbeats 2000000 in
theorem twiddles_4 (w : World) : Calls Try.prog 65 #[.int .i64 4] w fun e W' => ∃ v, e = .returned v ∧ Row W' v 4 (fun j => fac.getD j (0, 0)) ∧ Below w.heap.size w W' := by
  obtain ⟨i0, hi, hz0, hz1, hz2⟩ := info_parts info83
  go_enter Try.func65, Try.ntmps65
  go_wp2_with (first
    | (go_at_call 80; refine (turn_4 _).mono ?_; rintro e w' ⟨rfl, rfl⟩)
    | (go_at_call 51; refine (cj_4 _).mono ?_; rintro e w' ⟨rfl, rfl⟩))
  go_loopw [6] (fun s W => ∃ k g cap : Nat, 2 ≤ k ∧ k ≤ 4 ∧ s = .slice (some ⟨g, 0, none⟩) k cap ∧ W.ownsRow w.heap.size 83 1 (.slice (some ⟨g, 0, none⟩) k cap) k ((fac.take k).map cV) ∧ Below w.heap.size w W) (fun s _ => match s with | .slice _ k _ => 4 - k | _ => 0)
  case atStart => exact ⟨2, w.heap.size, 2, by omega, by omega, rfl, row_start w _ _, (Below.refl _ _).alloc (Nat.le_refl _) _⟩
  case round =>
    obtain ⟨k, g, cap, h2, h4, rfl, hrow, hB⟩ := hrel
    obtain ⟨g', cap', e, hgs, hkc, hcell⟩ := ownsRow_row hrow (by omega)
    cases e
    have hk : k = 2 ∨ k = 3 ∨ k = 4 := by omega
    rcases hk with rfl | rfl | rfl
    · have c1 : wr.cell? ⟨g, 1, none⟩ = some (.complex .f32 0 3212836864) := hcell 1 (by omega)
      clear hcell
      go_wp2_with (first
        | (go_at_call 49; refine (fac_1 _).mono ?_; rintro e w' ⟨rfl, rfl⟩)
        | (at_builtin; refine wpList_append_own _ rfl _ _ 94 rfl w.heap.size 83 i0 (.complex .f32 0 0) 1 8 Try.underlying94 hi hz0 hz1 hz2 rfl (by decide) _ _ _ rfl (hrow.alloc _) ⟨wr.heap.size, 0, none⟩ 1 1 [.complex .f32 3212836864 2147483648] rfl rfl (cell_one_new _ _ _) (by simp [Value.oneCell']) (by unfold maxLen; omega) (by omega) (by have := hB.size; simp; omega) ?_; intro v' w3 hown' hgrow3 _; obtain ⟨g3, cap3, rfl⟩ := ownsRow_succ hown'))
      go_roundw
      case rel => exact ⟨3, g3, cap3, by omega, by omega, rfl, hown', (hB.alloc hB.size _).grown hgrow3 (by have := hB.size; simp; omega) (fun j e => (hrow.lt j e).1)⟩
      case measure => simp
    · have c1 : wr.cell? ⟨g, 2, none⟩ = some (.complex .f32 3212836864 2147483648) := hcell 2 (by omega)
      clear hcell
      go_wp2_with (first
        | (go_at_call 49; refine (fac_2 _).mono ?_; rintro e w' ⟨rfl, rfl⟩)
        | (at_builtin; refine wpList_append_own _ rfl _ _ 94 rfl w.heap.size 83 i0 (.complex .f32 0 0) 1 8 Try.underlying94 hi hz0 hz1 hz2 rfl (by decide) _ _ _ rfl (hrow.alloc _) ⟨wr.heap.size, 0, none⟩ 1 1 [.complex .f32 2147483648 1065353216] rfl rfl (cell_one_new _ _ _) (by simp [Value.oneCell']) (by unfold maxLen; omega) (by omega) (by have := hB.size; simp; omega) ?_; intro v' w3 hown' hgrow3 _; obtain ⟨g3, cap3, rfl⟩ := ownsRow_succ hown'))
      go_roundw
      case rel => exact ⟨4, g3, cap3, by omega, by omega, rfl, hown', (hB.alloc hB.size _).grown hgrow3 (by have := hB.size; simp; omega) (fun j e => (hrow.lt j e).1)⟩
      case measure => simp
    · go_wp2
      go_ret
      exact ⟨_, rfl, ⟨g, _, rfl, hgs, by omega, hcell⟩, hB⟩

theorem getMap {w : World} {r c : Nat} {es : Array MapEntry} (h : w.heap[r]? = some (.map es c)) : (getObj r).run Try.prog w = .ok (.map es c) w := by simp [getObj, Sem.run, h]
theorem putMap {w : World} {r c : Nat} {es : Array MapEntry} (o : Obj) (h : w.heap[r]? = some (.map es c)) : (setObj r o).run Try.prog w = .ok () (w.putObj r o) := by simp [setObj, Sem.run, h, World.putObj]
theorem keyOk (b : Bool) (k : Int) (w : World) : (Instr.checkKey b 10000 3 (.int .i64 k)).run Try.prog w = .ok () w := by
  rw [show (10000 : Nat) = 9999 + 1 from rfl, Instr.checkKey]
  simp [run_underlying Try.underlying3, Result.andThen]
theorem keyNone (k : Int) (w : World) : (Instr.findKey 3 (.int .i64 k) []).run Try.prog w = .ok none w := by
  simp [Instr.findKey, run_underlying Try.underlying3, Result.andThen, Instr.findNow]
theorem keyTwo (v : Value) (d : Nat) (w : World) : (Instr.findKey 3 (.int .i64 2) [{ key := .int .i64 2, val := v, born := d }]).run Try.prog w = .ok (some (0, v)) w := by
  simp [Instr.findKey, run_underlying Try.underlying3, Result.andThen, Instr.findNow, Instr.sameNow]
theorem keyFour (v : Value) (d : Nat) (w : World) : (Instr.findKey 3 (.int .i64 4) [{ key := .int .i64 2, val := v, born := d }]).run Try.prog w = .ok none w := by
  simp [Instr.findKey, run_underlying Try.underlying3, Result.andThen, Instr.findNow, Instr.sameNow]

/-- The transformer's factors are kept in a map. -/
theorem look_miss (w : World) (r c : Nat) (k : Int) (h : w.heap[r]? = some (.map #[] c)) : (Instr.lookup 100 (.map (some r)) (.int .i64 k) true).run Try.prog w = .ok (.tuple #[.slice none 0 0, .bool false]) w := by
  simp [Instr.lookup, run_underlying Try.underlying100, getMap h, keyOk, keyNone, Result.andThen]
theorem look_hit (w : World) (r c d : Nat) (v : Value) (h : w.heap[r]? = some (.map #[{ key := .int .i64 2, val := v, born := d }] c)) : (Instr.lookup 100 (.map (some r)) (.int .i64 2) true).run Try.prog w = .ok (.tuple #[v, .bool true]) w := by
  simp [Instr.lookup, run_underlying Try.underlying100, getMap h, keyOk, keyTwo, Result.andThen]
theorem look_four (w : World) (r c d : Nat) (v : Value) (h : w.heap[r]? = some (.map #[{ key := .int .i64 2, val := v, born := d }] c)) : (Instr.lookup 100 (.map (some r)) (.int .i64 4) true).run Try.prog w = .ok (.tuple #[.slice none 0 0, .bool false]) w := by
  simp [Instr.lookup, run_underlying Try.underlying100, getMap h, keyOk, keyFour, Result.andThen]
theorem upd_new (w : World) (r c : Nat) (k : Int) (v : Value) (h : w.heap[r]? = some (.map #[] c)) : (Instr.mapUpdate 100 (.map (some r)) (.int .i64 k) v).run Try.prog w = .ok () (w.putObj r (.map #[{ key := .int .i64 k, val := v, born := c }] (c + 1))) := by
  simp [Instr.mapUpdate, run_underlying Try.underlying100, getMap h, keyOk, keyNone, putMap _ h, Result.andThen]
theorem upd_four (w : World) (r c d : Nat) (u v : Value) (h : w.heap[r]? = some (.map #[{ key := .int .i64 2, val := u, born := d }] c)) : (Instr.mapUpdate 100 (.map (some r)) (.int .i64 4) v).run Try.prog w = .ok () (w.putObj r (.map #[{ key := .int .i64 2, val := u, born := d }, { key := .int .i64 4, val := v, born := c }] (c + 1))) := by
  simp [Instr.mapUpdate, run_underlying Try.underlying100, getMap h, keyOk, keyFour, putMap _ h, Result.andThen]

/-- An object of a world that a call made: below the size nothing has turned but block r. -/
abbrev But (r : Nat) (W W' : World) : Prop := W.grownBy W' (some r)
theorem But.of_below {r : Nat} {W W' : World} (h : Below W.heap.size W W') : But r W W' := ⟨h.os, h.tape, h.output, h.size, fun k hk _ => h.block k hk⟩

theorem box1 (w : World) (v : Value) (t : TypeId) : (w.alloc (.cells #[v] t)).cell? ⟨w.heap.size, 0, none⟩ = some v := by simp [go_sem]

/-- Cells of other blocks read as before where one block has turned. -/
theorem cell_put {w : World} {r b o : Nat} {ob : Obj} (h : b ≠ r) : (w.putObj r ob).cell? ⟨b, o, none⟩ = w.cell? ⟨b, o, none⟩ := by
  simp [World.cell?, World.putObj_heap_other h]
theorem Row.put {w : World} {r k c : Nat} {es : Array MapEntry} {v : Value} {zs : Nat → Nat × Nat} (ob : Obj) (hr : w.heap[r]? = some (.map es c)) (hk : 1 ≤ k) (h : Row w v k zs) : Row (w.putObj r ob) v k zs := by
  obtain ⟨g, cap, e, hg, hc, hz⟩ := h
  refine ⟨g, cap, e, by simpa using hg, hc, fun j hj => ?_⟩
  have hne : g ≠ r := by
    rintro rfl
    have := hz 0 (by omega)
    simp [World.cell?, hr] at this
  rw [cell_put hne]
  exact hz j hj
theorem Row.below {w w' : World} {k : Nat} {v : Value} {zs : Nat → Nat × Nat} (hB : Below w.heap.size w w') (h : Row w v k zs) : Row w' v k zs := by
  obtain ⟨g, cap, e, hg, hc, hz⟩ := h
  exact ⟨g, cap, e, Nat.lt_of_lt_of_le hg hB.size, hc, fun j hj => (hB.cell (p := ⟨g, j, none⟩) hg).trans (hz j hj)⟩
theorem Row.but {w w' : World} {r k c : Nat} {es : Array MapEntry} {v : Value} {zs : Nat → Nat × Nat} (hr : w.heap[r]? = some (.map es c)) (hk : 1 ≤ k) (hB : But r w w') (h : Row w v k zs) : Row w' v k zs := by
  obtain ⟨g, cap, e, hg, hc, hz⟩ := h
  have hne : g ≠ r := by
    rintro rfl
    have := hz 0 (by omega)
    simp [World.cell?, hr] at this
  exact ⟨g, cap, e, Nat.lt_of_lt_of_le hg hB.size, hc, fun j hj => hB.cell (hz j hj) (by simpa using hne)⟩
theorem But.put {w w' : World} {r : Nat} (ob : Obj) (h : But r w w') : But r w (w'.putObj r ob) := h.trans (grownBy_putObj' w' r ob)

set_option maxRecDepth 100000 in
/-- factors of 2 points, the first time. -/
theorem kept_2 (w : World) (r c : Nat) (h : w.heap[r]? = some (.map #[] c)) : Calls Try.prog 83 #[.agg #[.map (some r)], .int .i64 2] w fun e W' => ∃ v, e = .returned v ∧ Row W' v 2 (fun j => fac2.getD j (0, 0)) ∧ W'.heap[r]? = some (.map #[{ key := .int .i64 2, val := v, born := c }] (c + 1)) ∧ But r w W' := by
  have hr : r < w.heap.size := (Array.getElem?_eq_some_iff.1 h).1
  have hm : (w.alloc (.cells #[.map (some r)] 102)).heap[r]? = some (.map #[] c) := (Below.heap_alloc _ _ r hr).trans h
  have hl := look_miss _ r c 2 hm
  go_enter Try.func83, Try.ntmps83
  go_wp2_with (go_at_call 65; refine (twiddles_2 _).mono ?_; rintro e w' ⟨v, rfl, hrow, hB⟩; have hm' := (hB.block r (by simp; omega)).trans hm; have hu := upd_new _ r c 2 v hm'; have hbx := (hB.cell (p := ⟨w.heap.size, 0, none⟩) (by simp)).trans (box1 w (.map (some r)) 102))
  go_ret
  exact ⟨_, rfl, hrow.put _ hm' (by omega), World.putObj_heap_same (by have := hB.size; simp at this; omega), (But.of_below (((Below.refl _ _).alloc (Nat.le_refl _) _).trans (hB.mono (by simp)))).put _⟩

set_option maxRecDepth 100000 in
/-- .. and then. -/
theorem again_2 (w : World) (r c d : Nat) (v : Value) (h : w.heap[r]? = some (.map #[{ key := .int .i64 2, val := v, born := d }] c)) : Gives 83 #[.agg #[.map (some r)], .int .i64 2] w v := by
  have hr : r < w.heap.size := (Array.getElem?_eq_some_iff.1 h).1
  have hm : (w.alloc (.cells #[.map (some r)] 102)).heap[r]? = some (.map #[{ key := .int .i64 2, val := v, born := d }] c) := (Below.heap_alloc _ _ r hr).trans h
  have hl := look_hit _ r c d v hm
  go_enter Try.func83, Try.ntmps83
  go_wp2
  go_ret
  exact ⟨rfl, (Below.refl _ _).alloc (Nat.le_refl _) _⟩

set_option maxRecDepth 100000 in
theorem kept_4 (w : World) (r c d : Nat) (u : Value) (h : w.heap[r]? = some (.map #[{ key := .int .i64 2, val := u, born := d }] c)) : Calls Try.prog 83 #[.agg #[.map (some r)], .int .i64 4] w fun e W' => ∃ v, e = .returned v ∧ Row W' v 4 (fun j => fac.getD j (0, 0)) ∧ But r w W' := by
  have hr : r < w.heap.size := (Array.getElem?_eq_some_iff.1 h).1
  have hm : (w.alloc (.cells #[.map (some r)] 102)).heap[r]? = some (.map #[{ key := .int .i64 2, val := u, born := d }] c) := (Below.heap_alloc _ _ r hr).trans h
  have hl := look_four _ r c d u hm
  go_enter Try.func83, Try.ntmps83
  go_wp2_with (go_at_call 65; refine (twiddles_4 _).mono ?_; rintro e w' ⟨v, rfl, hrow, hB⟩; have hm' := (hB.block r (by simp; omega)).trans hm; have hu := upd_four _ r c d u v hm'; have hbx := (hB.cell (p := ⟨w.heap.size, 0, none⟩) (by simp)).trans (box1 w (.map (some r)) 102))
  go_ret
  exact ⟨_, rfl, hrow.put _ hm' (by omega), (But.of_below (((Below.refl _ _).alloc (Nat.le_refl _) _).trans (hB.mono (by simp)))).put _⟩

end Go.Proofs.Ytmhfdjognikilaa
