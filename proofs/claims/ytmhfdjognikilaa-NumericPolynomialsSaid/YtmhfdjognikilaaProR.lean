/- NumericProducts (P16.4): for every two lists of three pairs of int8 numbers, every two uint8 numbers and every pair of int8 numbers the law returns true, and its arguments read as before. No condition. -/
import Derived.Test.YtmhfdjognikilaaProG
import Derived.Test.YtmhfdjognikilaaRows
import Derived.ProofKit
import Derived.OpenShut
import Derived.ChangeSame
import Derived.JoinedOf
import Derived.JoinedAt
import Derived.RowKit3
namespace Go.Proofs.Ytmhfdjognikilaa
open Go.ChangeShapes Go.WideShapes Go.ChangeAt Go.RowKit

theorem list2 {α : Type} (l : List α) (h : (⟨l⟩ : Array α).size = 2) : ∃ a b, l = [a, b] := by
  match l, h with
  | [a, b], _ => exact ⟨a, b, rfl⟩
theorem list6 {α : Type} (l : List α) (h : (⟨l⟩ : Array α).size = 6) : ∃ a b c d e f, l = [a, b, c, d, e, f] := by
  match l, h with
  | [a, b, c, d, e, f], _ => exact ⟨a, b, c, d, e, f, rfl⟩
theorem cells75 : Try.prog.cellsOf 75 = 1 := by kernel_rfl
theorem cells76 : Try.prog.cellsOf 76 = 2 := by kernel_rfl
theorem cells77 : Try.prog.cellsOf 77 = 6 := by kernel_rfl

section
variable {H : Type} {enc : TypeId × Value → H} {P : Program} {w : World} {base : Nat} {spare : Nat → Bool} {held : Bool}
theorem trod_array2 {t e : TypeId} {fuel : Nat} {c0 c1 : Value} {x : DataW H × List MemPlace} (ht : P.underlying t = some (.array 2 e)) (hce : P.cellsOf e = 1)
    (h : DataW.trod enc P w base spare held fuel t [c0, c1] = some x) :
    ∃ y0 y1 n, x = (.agg [y0.1, y1.1], y0.2 ++ y1.2) ∧ DataW.trod enc P w base spare held n e [c0] = some y0 ∧ DataW.trod enc P w base spare held n e [c1] = some y1 := by
  cases fuel with
  | zero => simp [DataW.trod] at h
  | succ n =>
    unfold DataW.trod at h
    rw [ht] at h
    have r2 : List.range 2 = [0, 1] := rfl
    simp [r2, hce] at h
    obtain ⟨_, h⟩ := h
    cases h0 : DataW.trod enc P w base spare held n e [c0] with
    | none => simp [h0] at h
    | some y0 =>
      cases h1 : DataW.trod enc P w base spare held n e [c1] with
      | none => simp [h0, h1] at h
      | some y1 =>
        simp [h0, h1] at h
        exact ⟨y0, y1, n, h.symm, h0, h1⟩
theorem trod_array3 {t e : TypeId} {fuel : Nat} {c0 c1 c2 c3 c4 c5 : Value} {x : DataW H × List MemPlace} (ht : P.underlying t = some (.array 3 e)) (hce : P.cellsOf e = 2)
    (h : DataW.trod enc P w base spare held fuel t [c0, c1, c2, c3, c4, c5] = some x) :
    ∃ y0 y1 y2 n, x = (.agg [y0.1, y1.1, y2.1], y0.2 ++ (y1.2 ++ y2.2)) ∧ DataW.trod enc P w base spare held n e [c0, c1] = some y0 ∧ DataW.trod enc P w base spare held n e [c2, c3] = some y1 ∧ DataW.trod enc P w base spare held n e [c4, c5] = some y2 := by
  cases fuel with
  | zero => simp [DataW.trod] at h
  | succ n =>
    unfold DataW.trod at h
    rw [ht] at h
    have r3 : List.range 3 = [0, 1, 2] := rfl
    simp [r3, hce] at h
    obtain ⟨_, h⟩ := h
    cases h0 : DataW.trod enc P w base spare held n e [c0, c1] with
    | none => simp [h0] at h
    | some y0 =>
      cases h1 : DataW.trod enc P w base spare held n e [c2, c3] with
      | none => simp [h0, h1] at h
      | some y1 =>
        cases h2 : DataW.trod enc P w base spare held n e [c4, c5] with
        | none => simp [h0, h1, h2] at h
        | some y2 =>
          simp [h0, h1, h2] at h
          exact ⟨y0, y1, y2, n, h.symm, h0, h1, h2⟩
end

abbrev pair8 (a b : Int) : Value := .agg #[.int .i8 a, .int .i8 b]
abbrev pairD {H : Type} (a b : Int) : DataW H := .agg [.lit (.int .i8 a), .lit (.int .i8 b)]
abbrev tripD {H : Type} (l : Nat → Int × Int) : DataW H := .agg [pairD (l 0).1 (l 0).2, pairD (l 1).1 (l 1).2, pairD (l 2).1 (l 2).2]

theorem open_two {H : Type} {enc : TypeId × Value → H} {W : World} {bb n : Nat} {sp : Nat → Bool} {hd : Bool} {c0 c1 : Value} {y : DataW H × List MemPlace} (h : DataW.trod enc Try.prog W bb sp hd n 76 [c0, c1] = some y) :
    ∃ a b, c0 = .int .i8 a ∧ c1 = .int .i8 b ∧ y = (pairD a b, []) ∧ (Lit.int .i8 a).wf = true ∧ (Lit.int .i8 b).wf = true := by
  obtain ⟨y0, y1, m, rfl, hy0, hy1⟩ := trod_array2 Try.underlying76 cells75 h
  obtain ⟨x0, e0, rfl, w0⟩ := DataW.trod_int Try.underlying75 hy0
  obtain ⟨x1, e1, rfl, w1⟩ := DataW.trod_int Try.underlying75 hy1
  simp at e0 e1
  subst e0 e1
  exact ⟨x0, x1, rfl, rfl, rfl, w0, w1⟩

set_option maxRecDepth 100000 in
/-- A pair that came in. -/
theorem open_pair {H : Type} {enc : TypeId × Value → H} {W : World} {base bb : Nat} {sp : Nat → Bool} {v : Value} {d : DataW H} {p : List MemPlace} (hok : Value.okWide Try.prog W .any base 76 v) (h : DataW.Trod enc Try.prog W bb sp true 76 v d p) :
    ∃ a b, v = pair8 a b ∧ d = pairD a b ∧ p = [] ∧ (Lit.int .i8 a).wf = true ∧ (Lit.int .i8 b).wf = true := by
  obtain ⟨cs, rfl, hsz, _⟩ : ∃ cs, v = .agg cs ∧ cs.size = Try.prog.cellsOf 76 ∧ Row.okWide Try.prog W .any base 76 cs := by
    simpa [Value.okWide, Try.underlying76] using hok
  rw [cells76] at hsz
  obtain ⟨l⟩ := cs
  obtain ⟨c0, c1, rfl⟩ := list2 l hsz
  obtain ⟨fuel, hf⟩ := h
  obtain ⟨a, b, rfl, rfl, e, w0, w1⟩ := open_two hf
  simp only [Prod.mk.injEq] at e
  obtain ⟨rfl, rfl⟩ := e
  exact ⟨a, b, rfl, rfl, rfl, w0, w1⟩
/-- The pairs are numbers of eight bits. -/
def Wf (l : Nat → Int × Int) : Prop := ((Lit.int .i8 (l 0).1).wf = true ∧ (Lit.int .i8 (l 0).2).wf = true) ∧ ((Lit.int .i8 (l 1).1).wf = true ∧ (Lit.int .i8 (l 1).2).wf = true) ∧ ((Lit.int .i8 (l 2).1).wf = true ∧ (Lit.int .i8 (l 2).2).wf = true)
set_option maxRecDepth 100000 in
/-- Three pairs that came in. -/
theorem open_trip {H : Type} {enc : TypeId × Value → H} {W : World} {base bb : Nat} {sp : Nat → Bool} {v : Value} {d : DataW H} {p : List MemPlace} (hok : Value.okWide Try.prog W .any base 77 v) (h : DataW.Trod enc Try.prog W bb sp true 77 v d p) :
    ∃ l, v = trip l ∧ d = tripD l ∧ p = [] ∧ Wf l := by
  obtain ⟨cs, rfl, hsz, _⟩ : ∃ cs, v = .agg cs ∧ cs.size = Try.prog.cellsOf 77 ∧ Row.okWide Try.prog W .any base 77 cs := by
    simpa [Value.okWide, Try.underlying77] using hok
  rw [cells77] at hsz
  obtain ⟨l⟩ := cs
  obtain ⟨c0, c1, c2, c3, c4, c5, rfl⟩ := list6 l hsz
  obtain ⟨fuel, hf⟩ := h
  obtain ⟨y0, y1, y2, m, e, hy0, hy1, hy2⟩ := trod_array3 Try.underlying77 cells76 hf
  obtain ⟨a0, b0, rfl, rfl, rfl, u0, v0⟩ := open_two hy0
  obtain ⟨a1, b1, rfl, rfl, rfl, u1, v1⟩ := open_two hy1
  obtain ⟨a2, b2, rfl, rfl, rfl, u2, v2⟩ := open_two hy2
  simp only [Prod.mk.injEq, List.append_nil] at e
  obtain ⟨rfl, rfl⟩ := e
  exact ⟨fun j => if j = 0 then (a0, b0) else if j = 1 then (a1, b1) else (a2, b2), rfl, rfl, rfl, ⟨u0, v0⟩, ⟨u1, v1⟩, ⟨u2, v2⟩⟩
theorem shut_pair {H : Type} {enc : TypeId × Value → H} {W : World} {bb : Nat} {sp : Nat → Bool} {a b : Int} (w0 : (Lit.int .i8 a).wf = true) (w1 : (Lit.int .i8 b).wf = true) : DataW.Trod enc Try.prog W bb sp true 76 (pair8 a b) (pairD a b) [] :=
  ⟨2, by simp [DataW.trod, Value.cells, Try.underlying76, Try.underlying75, cells76, cells75, w0, w1, show List.range 2 = [0, 1] from rfl]⟩
theorem shut_trip {H : Type} {enc : TypeId × Value → H} {W : World} {bb : Nat} {sp : Nat → Bool} {l : Nat → Int × Int} (h : Wf l) : DataW.Trod enc Try.prog W bb sp true 77 (trip l) (tripD l) [] := by
  obtain ⟨⟨h0, h1⟩, ⟨h2, h3⟩, h4, h5⟩ := h
  exact ⟨3, by simp [DataW.trod, Value.cells, Try.underlying77, Try.underlying76, Try.underlying75, cells77, cells76, cells75, h0, h1, h2, h3, h4, h5, show List.range 2 = [0, 1] from rfl, show List.range 3 = [0, 1, 2] from rfl]⟩
theorem i8_bd {n : Int} (h : (Lit.int .i8 n).wf = true) : -128 ≤ n ∧ n ≤ 127 := by
  have h' : (decide (IntKind.i8.min ≤ n) && decide (n ≤ IntKind.i8.max)) = true := h
  have e1 : IntKind.i8.min = -128 := by kernel_rfl
  have e2 : IntKind.i8.max = 127 := by kernel_rfl
  rw [e1, e2] at h'
  simpa using h'
theorem Wf.small {l : Nat → Int × Int} (h : Wf l) : Small8 l := by
  obtain ⟨⟨h0, h1⟩, ⟨h2, h3⟩, h4, h5⟩ := h
  intro j hj
  have : j = 0 ∨ j = 1 ∨ j = 2 := by omega
  rcases this with rfl | rfl | rfl
  · exact ⟨i8_bd h0, i8_bd h1⟩
  · exact ⟨i8_bd h2, i8_bd h3⟩
  · exact ⟨i8_bd h4, i8_bd h5⟩
theorem u8_bd {n : Int} (h : (Lit.int .u8 n).wf = true) : 0 ≤ n ∧ n < 256 := by
  have h' : (decide (IntKind.u8.min ≤ n) && decide (n ≤ IntKind.u8.max)) = true := h
  have e1 : IntKind.u8.min = 0 := by kernel_rfl
  have e2 : IntKind.u8.max = 255 := by kernel_rfl
  rw [e1, e2] at h'
  have : 0 ≤ n ∧ n ≤ 255 := by simpa using h'
  omega

theorem Try.own : ownKnob Try.prog.godebug = none := by kernel_rfl

theorem post_below {H : Type} {enc : TypeId × Value → H} {P : Program} {f : Func} {s : ChangeSpec} {fresh again : Bool} {W W' : World} {args : Array Value} {v : Value} {ds gs : List (DataW H)}
    (hW : DataW.Whole enc P f.params.toList s.vars false W args.toList ds gs [])
    (hres : ∀ (b : Nat) (sp : Nat → Bool) (hd : Bool), DataW.TrodAll enc P W' b sp hd f.resultTypes.toList (v.resultList f.resultTypes.size) (s.fn H (ds ++ gs)).results [])
    (hargs : ∀ sp : Nat → Bool, DataW.TrodAll enc P W' 0 sp true f.params.toList args.toList (s.fn H (ds ++ gs)).args [])
    (hvars : ∀ sp : Nat → Bool, DataW.TrodVars enc P W' sp s.vars (s.fn H (ds ++ gs)).vars []) (hb : Below W.heap.size W W')
    (hok : ∀ (j : Nat) (t : TypeId) (r : Value), f.resultTypes[j]? = some t → (v.resultList f.resultTypes.size)[j]? = some r → Value.okWide P W' .any 0 t r) :
    s.post enc P f false fresh false again W args v W' := by
  refine ⟨ds, gs, [], [], [], [], hW, hres _ _ _, hargs _, hvars _, World.keptBut_mono (fun p hp => absurd hp (by simp)) (hb.frame (fun _ => False)), fun _ => ?_⟩
  exact ⟨hok, _, _, _, ⟨_, _, trodAll_append (hargs _) (hres _ _ _), hvars _, rfl, fun b o hp => by simp at hp, fun h => by cases h⟩, fun p hp => by simp at hp⟩

set_option maxHeartbeats 400000 in
set_option maxRecDepth 100000 in
theorem numericProducts_lifted (os : Os) (started : os.Started) (H : Type) (enc : TypeId × Value → H) :
    ReturnsInHanded {} Try.checked os 8 .any (Rows.numericProductsSpec.pre6 enc Try.prog Try.f8 Rows.numericProductsRow.domain false) (Rows.numericProductsSpec.post enc Try.prog Try.f8 false true false false) := by
  refine returnsInHanded_of_change (C := Try.checked) Try.own started (by kernel_rfl) Try.func8
    (ChangeSpec.witness6 (enc := enc) (C := Try.checked) false ⟨#[], #[trip fun _ => (0, 0), trip fun _ => (0, 0), .int .u8 0, .int .u8 0, pair8 0 0], []⟩ 8 (by kernel_rfl) (by kernel_rfl) (by kernel_rfl) (by kernel_rfl)) ?_
  intro W base args ds gs before hval0 hW _ _
  have hval : ∀ (j : Nat) t v, Try.f8.params[j]? = some t → args[j]? = some v → Value.okWide Try.prog W .any base t v := hval0
  have hW' := hW
  obtain ⟨p, q, hA0, hV, rfl, _, _⟩ := hW
  have hA : DataW.TrodAll enc Try.prog W 0 (fun _ => true) true Try.f8.params.toList args.toList ds p := hA0
  rw [Try.params8] at hA hval
  obtain ⟨v0, vs0, d0, ds0, p0, q0, hargs, rfl, rfl, h0, r0⟩ := trodAll_cons hA
  obtain ⟨v1, vs1, d1, ds1, p1, q1, rfl, rfl, rfl, h1, r1⟩ := trodAll_cons r0
  obtain ⟨v2, vs2, d2, ds2, p2, q2, rfl, rfl, rfl, h2, r2⟩ := trodAll_cons r1
  obtain ⟨v3, vs3, d3, ds3, p3, q3, rfl, rfl, rfl, h3, r3⟩ := trodAll_cons r2
  obtain ⟨v4, vs4, d4, ds4, p4, q4, rfl, rfl, rfl, h4, r4⟩ := trodAll_cons r3
  obtain ⟨rfl, rfl, rfl⟩ := trodAll_nil r4
  obtain rfl : args = #[v0, v1, v2, v3, v4] := by cases args; simp_all
  obtain ⟨rfl, rfl⟩ := trodVars_none hV
  obtain ⟨a, rfl, rfl, rfl, wa⟩ := open_trip (hval 0 77 v0 rfl rfl) h0
  obtain ⟨b, rfl, rfl, rfl, wb⟩ := open_trip (hval 1 77 v1 rfl rfl) h1
  obtain ⟨m, rfl, rfl, rfl, wm⟩ := open_int Try.underlying5 (hval 2 5 v2 rfl rfl) h2
  obtain ⟨n, rfl, rfl, rfl, wn⟩ := open_int Try.underlying5 (hval 3 5 v3 rfl rfl) h3
  obtain ⟨x0, x1, rfl, rfl, rfl, w0, w1⟩ := open_pair (hval 4 76 v4 rfl rfl) h4
  clear hA0 hval0
  simp only [List.append_nil] at hW'
  refine (products_walk W a b m n x0 x1 wa.small wb.small (u8_bd wm) (u8_bd wn) (i8_bd w0) (i8_bd w1)).mono fun e W' ⟨he, hb⟩ => ?_
  subst he
  exact ⟨_, rfl, post_below hW' (fun _ _ _ => (trodAll_cons_mk (shut_bool Try.underlying4 _) trodAll_mk0)) (fun sp => (trodAll_cons_mk (shut_trip wa) (trodAll_cons_mk (shut_trip wb) (trodAll_cons_mk (shut_int Try.underlying5 wm) (trodAll_cons_mk (shut_int Try.underlying5 wn) (trodAll_cons_mk (shut_pair w0 w1) trodAll_mk0)))))) (fun _ => rfl) hb
    (ok_one (by kernel_rfl) rfl (okWide_bool_mk Try.underlying4 _))⟩

theorem numericProducts_said : Rows.NumericProductsSaid :=
  OpenClaim.holds_of_wide 8 Try.f8 rfl rfl rfl rfl rfl rfl rfl ⟨rfl, rfl, rfl, rfl, rfl⟩ rfl rfl rfl rfl rfl (by kernel_rfl) Try.func8 (by kernel_rfl)
    (of_decide_eq_true (by kernel_rfl)) (by unfold Func.isWrapper; first | (rw [if_pos (by decide +kernel)]; kernel_rfl) | (rw [if_neg (by decide +kernel)]; exact ⟨rfl, rfl⟩))
    (fun os started H enc _ => numericProducts_lifted os started H enc)
#print axioms numericProducts_said
end Go.Proofs.Ytmhfdjognikilaa
