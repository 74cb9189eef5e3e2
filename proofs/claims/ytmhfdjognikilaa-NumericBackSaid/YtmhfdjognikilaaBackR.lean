/- NumericBack (P16.3, P16.5): for every two lists of four pairs of int16 numbers and every uint8 number the law returns true, and its arguments read as before. No condition. -/
import Derived.Test.YtmhfdjognikilaaBackJ
import Derived.Test.YtmhfdjognikilaaRows
import Derived.ProofKit
import Derived.OpenShut
import Derived.ChangeSame
import Derived.JoinedOf
import Derived.JoinedAt
import Derived.RowKit3
namespace Go.Proofs.Ytmhfdjognikilaa
open Go.ChangeShapes Go.WideShapes Go.ChangeAt Go.RowKit

theorem list2 {α : Type} (l : List α) (h : (⟨l⟩ : Array α).size = 2) : ∃ a b, l = [a, b] := by
  match l, h with
  | [a, b], _ => exact ⟨a, b, rfl⟩
theorem list8 {α : Type} (l : List α) (h : (⟨l⟩ : Array α).size = 8) : ∃ a b c d e f g i, l = [a, b, c, d, e, f, g, i] := by
  match l, h with
  | [a, b, c, d, e, f, g, i], _ => exact ⟨a, b, c, d, e, f, g, i, rfl⟩
theorem cells63 : Try.prog.cellsOf 63 = 1 := by kernel_rfl
theorem cells64 : Try.prog.cellsOf 64 = 2 := by kernel_rfl
theorem cells69 : Try.prog.cellsOf 69 = 8 := by kernel_rfl

section
variable {H : Type} {enc : TypeId × Value → H} {P : Program} {w : World} {base : Nat} {spare : Nat → Bool} {held : Bool}
theorem trod_array2 {t e : TypeId} {fuel : Nat} {c0 c1 : Value} {x : DataW H × List MemPlace} (ht : P.underlying t = some (.array 2 e)) (hce : P.cellsOf e = 1)
    (h : DataW.trod enc P w base spare held fuel t [c0, c1] = some x) :
    ∃ y0 y1 n, x = (.agg [y0.1, y1.1], y0.2 ++ y1.2) ∧ DataW.trod enc P w base spare held n e [c0] = some y0 ∧ DataW.trod enc P w base spare held n e [c1] = some y1 := by
  cases fuel with
  | zero => simp [DataW.trod] at h
  | succ n =>
    unfold DataW.trod at h
    rw [ht] at h
    have r2 : List.range 2 = [0, 1] := rfl
    simp [r2, hce] at h
    obtain ⟨_, h⟩ := h
    cases h0 : DataW.trod enc P w base spare held n e [c0] with
    | none => simp [h0] at h
    | some y0 =>
      cases h1 : DataW.trod enc P w base spare held n e [c1] with
      | none => simp [h0, h1] at h
      | some y1 =>
        simp [h0, h1] at h
        exact ⟨y0, y1, n, h.symm, h0, h1⟩
theorem trod_array4 {t e : TypeId} {fuel : Nat} {c0 c1 c2 c3 c4 c5 c6 c7 : Value} {x : DataW H × List MemPlace} (ht : P.underlying t = some (.array 4 e)) (hce : P.cellsOf e = 2)
    (h : DataW.trod enc P w base spare held fuel t [c0, c1, c2, c3, c4, c5, c6, c7] = some x) :
    ∃ y0 y1 y2 y3 n, x = (.agg [y0.1, y1.1, y2.1, y3.1], y0.2 ++ (y1.2 ++ (y2.2 ++ y3.2))) ∧ DataW.trod enc P w base spare held n e [c0, c1] = some y0 ∧ DataW.trod enc P w base spare held n e [c2, c3] = some y1 ∧ DataW.trod enc P w base spare held n e [c4, c5] = some y2 ∧ DataW.trod enc P w base spare held n e [c6, c7] = some y3 := by
  cases fuel with
  | zero => simp [DataW.trod] at h
  | succ n =>
    unfold DataW.trod at h
    rw [ht] at h
    have r4 : List.range 4 = [0, 1, 2, 3] := rfl
    simp [r4, hce] at h
    obtain ⟨_, h⟩ := h
    cases h0 : DataW.trod enc P w base spare held n e [c0, c1] with
    | none => simp [h0] at h
    | some y0 =>
      cases h1 : DataW.trod enc P w base spare held n e [c2, c3] with
      | none => simp [h0, h1] at h
      | some y1 =>
        cases h2 : DataW.trod enc P w base spare held n e [c4, c5] with
        | none => simp [h0, h1, h2] at h
        | some y2 =>
          cases h3 : DataW.trod enc P w base spare held n e [c6, c7] with
          | none => simp [h0, h1, h2, h3] at h
          | some y3 =>
            simp [h0, h1, h2, h3] at h
            exact ⟨y0, y1, y2, y3, n, h.symm, h0, h1, h2, h3⟩
end

abbrev pairD {H : Type} (a b : Int) : DataW H := .agg [.lit (.int .i16 a), .lit (.int .i16 b)]
abbrev quadD {H : Type} (l : Nat → Int × Int) : DataW H := .agg [pairD (l 0).1 (l 0).2, pairD (l 1).1 (l 1).2, pairD (l 2).1 (l 2).2, pairD (l 3).1 (l 3).2]

theorem open_two {H : Type} {enc : TypeId × Value → H} {W : World} {bb n : Nat} {sp : Nat → Bool} {hd : Bool} {c0 c1 : Value} {y : DataW H × List MemPlace} (h : DataW.trod enc Try.prog W bb sp hd n 64 [c0, c1] = some y) :
    ∃ a b, c0 = .int .i16 a ∧ c1 = .int .i16 b ∧ y = (pairD a b, []) ∧ (Lit.int .i16 a).wf = true ∧ (Lit.int .i16 b).wf = true := by
  obtain ⟨y0, y1, m, rfl, hy0, hy1⟩ := trod_array2 Try.underlying64 cells63 h
  obtain ⟨x0, e0, rfl, w0⟩ := DataW.trod_int Try.underlying63 hy0
  obtain ⟨x1, e1, rfl, w1⟩ := DataW.trod_int Try.underlying63 hy1
  simp at e0 e1
  subst e0 e1
  exact ⟨x0, x1, rfl, rfl, rfl, w0, w1⟩

/-- The pairs are numbers of sixteen bits. -/
def Wf (l : Nat → Int × Int) : Prop := (((Lit.int .i16 (l 0).1).wf = true ∧ (Lit.int .i16 (l 0).2).wf = true) ∧ ((Lit.int .i16 (l 1).1).wf = true ∧ (Lit.int .i16 (l 1).2).wf = true)) ∧ ((Lit.int .i16 (l 2).1).wf = true ∧ (Lit.int .i16 (l 2).2).wf = true) ∧ ((Lit.int .i16 (l 3).1).wf = true ∧ (Lit.int .i16 (l 3).2).wf = true)
set_option maxRecDepth 100000 in
/-- Four pairs that came in. -/
theorem open_quad {H : Type} {enc : TypeId × Value → H} {W : World} {base bb : Nat} {sp : Nat → Bool} {v : Value} {d : DataW H} {p : List MemPlace} (hok : Value.okWide Try.prog W .any base 69 v) (h : DataW.Trod enc Try.prog W bb sp true 69 v d p) :
    ∃ l, v = quad l ∧ d = quadD l ∧ p = [] ∧ Wf l := by
  obtain ⟨cs, rfl, hsz, _⟩ : ∃ cs, v = .agg cs ∧ cs.size = Try.prog.cellsOf 69 ∧ Row.okWide Try.prog W .any base 69 cs := by
    simpa [Value.okWide, Try.underlying69] using hok
  rw [cells69] at hsz
  obtain ⟨l⟩ := cs
  obtain ⟨c0, c1, c2, c3, c4, c5, c6, c7, rfl⟩ := list8 l hsz
  obtain ⟨fuel, hf⟩ := h
  obtain ⟨y0, y1, y2, y3, m, e, hy0, hy1, hy2, hy3⟩ := trod_array4 Try.underlying69 cells64 hf
  obtain ⟨a0, b0, rfl, rfl, rfl, u0, v0⟩ := open_two hy0
  obtain ⟨a1, b1, rfl, rfl, rfl, u1, v1⟩ := open_two hy1
  obtain ⟨a2, b2, rfl, rfl, rfl, u2, v2⟩ := open_two hy2
  obtain ⟨a3, b3, rfl, rfl, rfl, u3, v3⟩ := open_two hy3
  simp only [Prod.mk.injEq, List.append_nil] at e
  obtain ⟨rfl, rfl⟩ := e
  exact ⟨fun j => if j = 0 then (a0, b0) else if j = 1 then (a1, b1) else if j = 2 then (a2, b2) else (a3, b3), rfl, rfl, rfl, ⟨⟨u0, v0⟩, ⟨u1, v1⟩⟩, ⟨u2, v2⟩, ⟨u3, v3⟩⟩
theorem shut_quad {H : Type} {enc : TypeId × Value → H} {W : World} {bb : Nat} {sp : Nat → Bool} {l : Nat → Int × Int} (h : Wf l) : DataW.Trod enc Try.prog W bb sp true 69 (quad l) (quadD l) [] := by
  obtain ⟨⟨⟨h0, h1⟩, ⟨h2, h3⟩⟩, ⟨h4, h5⟩, h6, h7⟩ := h
  exact ⟨3, by simp [DataW.trod, Value.cells, Try.underlying69, Try.underlying64, Try.underlying63, cells69, cells64, cells63, h0, h1, h2, h3, h4, h5, h6, h7, show List.range 2 = [0, 1] from rfl, show List.range 4 = [0, 1, 2, 3] from rfl]⟩
theorem i16_bd {n : Int} (h : (Lit.int .i16 n).wf = true) : -32768 ≤ n ∧ n ≤ 32767 := by
  have h' : (decide (IntKind.i16.min ≤ n) && decide (n ≤ IntKind.i16.max)) = true := h
  have e1 : IntKind.i16.min = -32768 := by kernel_rfl
  have e2 : IntKind.i16.max = 32767 := by kernel_rfl
  rw [e1, e2] at h'
  simpa using h'
theorem Wf.small {l : Nat → Int × Int} (h : Wf l) : Small16 l := by
  obtain ⟨⟨⟨h0, h1⟩, ⟨h2, h3⟩⟩, ⟨h4, h5⟩, h6, h7⟩ := h
  intro j hj
  have : j = 0 ∨ j = 1 ∨ j = 2 ∨ j = 3 := by omega
  rcases this with rfl | rfl | rfl | rfl
  · exact ⟨i16_bd h0, i16_bd h1⟩
  · exact ⟨i16_bd h2, i16_bd h3⟩
  · exact ⟨i16_bd h4, i16_bd h5⟩
  · exact ⟨i16_bd h6, i16_bd h7⟩
theorem u8_bd {n : Int} (h : (Lit.int .u8 n).wf = true) : 0 ≤ n ∧ n < 256 := by
  have h' : (decide (IntKind.u8.min ≤ n) && decide (n ≤ IntKind.u8.max)) = true := h
  have e1 : IntKind.u8.min = 0 := by kernel_rfl
  have e2 : IntKind.u8.max = 255 := by kernel_rfl
  rw [e1, e2] at h'
  have : 0 ≤ n ∧ n ≤ 255 := by simpa using h'
  omega

theorem Try.own : ownKnob Try.prog.godebug = none := by kernel_rfl

theorem post_below {H : Type} {enc : TypeId × Value → H} {P : Program} {f : Func} {s : ChangeSpec} {fresh again : Bool} {W W' : World} {args : Array Value} {v : Value} {ds gs : List (DataW H)}
    (hW : DataW.Whole enc P f.params.toList s.vars false W args.toList ds gs [])
    (hres : ∀ (b : Nat) (sp : Nat → Bool) (hd : Bool), DataW.TrodAll enc P W' b sp hd f.resultTypes.toList (v.resultList f.resultTypes.size) (s.fn H (ds ++ gs)).results [])
    (hargs : ∀ sp : Nat → Bool, DataW.TrodAll enc P W' 0 sp true f.params.toList args.toList (s.fn H (ds ++ gs)).args [])
    (hvars : ∀ sp : Nat → Bool, DataW.TrodVars enc P W' sp s.vars (s.fn H (ds ++ gs)).vars []) (hb : Below W.heap.size W W')
    (hok : ∀ (j : Nat) (t : TypeId) (r : Value), f.resultTypes[j]? = some t → (v.resultList f.resultTypes.size)[j]? = some r → Value.okWide P W' .any 0 t r) :
    s.post enc P f false fresh false again W args v W' := by
  refine ⟨ds, gs, [], [], [], [], hW, hres _ _ _, hargs _, hvars _, World.keptBut_mono (fun p hp => absurd hp (by simp)) (hb.frame (fun _ => False)), fun _ => ?_⟩
  exact ⟨hok, _, _, _, ⟨_, _, trodAll_append (hargs _) (hres _ _ _), hvars _, rfl, fun b o hp => by simp at hp, fun h => by cases h⟩, fun p hp => by simp at hp⟩

set_option maxHeartbeats 400000 in
set_option maxRecDepth 100000 in
theorem numericBack_lifted (os : Os) (started : os.Started) (H : Type) (enc : TypeId × Value → H) :
    ReturnsInHanded {} Try.checked os 7 .any (Rows.numericBackSpec.pre6 enc Try.prog Try.f7 Rows.numericBackRow.domain false) (Rows.numericBackSpec.post enc Try.prog Try.f7 false true false false) := by
  refine returnsInHanded_of_change (C := Try.checked) Try.own started (by kernel_rfl) Try.func7
    (ChangeSpec.witness6 (enc := enc) (C := Try.checked) false ⟨#[], #[quad fun _ => (0, 0), quad fun _ => (0, 0), .int .u8 0], []⟩ 8 (by kernel_rfl) (by kernel_rfl) (by kernel_rfl) (by kernel_rfl)) ?_
  intro W base args ds gs before hval0 hW _ _
  have hval : ∀ (j : Nat) t v, Try.f7.params[j]? = some t → args[j]? = some v → Value.okWide Try.prog W .any base t v := hval0
  have hW' := hW
  obtain ⟨p, q, hA0, hV, rfl, _, _⟩ := hW
  have hA : DataW.TrodAll enc Try.prog W 0 (fun _ => true) true Try.f7.params.toList args.toList ds p := hA0
  rw [Try.params7] at hA hval
  obtain ⟨v0, vs0, d0, ds0, p0, q0, hargs, rfl, rfl, h0, r0⟩ := trodAll_cons hA
  obtain ⟨v1, vs1, d1, ds1, p1, q1, rfl, rfl, rfl, h1, r1⟩ := trodAll_cons r0
  obtain ⟨v2, vs2, d2, ds2, p2, q2, rfl, rfl, rfl, h2, r2⟩ := trodAll_cons r1
  obtain ⟨rfl, rfl, rfl⟩ := trodAll_nil r2
  obtain rfl : args = #[v0, v1, v2] := by cases args; simp_all
  obtain ⟨rfl, rfl⟩ := trodVars_none hV
  obtain ⟨a, rfl, rfl, rfl, wa⟩ := open_quad (hval 0 69 v0 rfl rfl) h0
  obtain ⟨b, rfl, rfl, rfl, wb⟩ := open_quad (hval 1 69 v1 rfl rfl) h1
  obtain ⟨k, rfl, rfl, rfl, wk⟩ := open_int Try.underlying5 (hval 2 5 v2 rfl rfl) h2
  clear hA0 hval0
  simp only [List.append_nil] at hW'
  refine (back_walk W a b k wa.small wb.small (u8_bd wk)).mono fun e W' ⟨he, hb⟩ => ?_
  subst he
  exact ⟨_, rfl, post_below hW' (fun _ _ _ => (trodAll_cons_mk (shut_bool Try.underlying4 _) trodAll_mk0)) (fun sp => (trodAll_cons_mk (shut_quad wa) (trodAll_cons_mk (shut_quad wb) (trodAll_cons_mk (shut_int Try.underlying5 wk) trodAll_mk0)))) (fun _ => rfl) hb
    (ok_one (by kernel_rfl) rfl (okWide_bool_mk Try.underlying4 _))⟩

theorem numericBack_said : Rows.NumericBackSaid :=
  OpenClaim.holds_of_wide 7 Try.f7 rfl rfl rfl rfl rfl rfl rfl ⟨rfl, rfl, rfl, rfl, rfl⟩ rfl rfl rfl rfl rfl (by kernel_rfl) Try.func7 (by kernel_rfl)
    (of_decide_eq_true (by kernel_rfl)) (by unfold Func.isWrapper; first | (rw [if_pos (by decide +kernel)]; kernel_rfl) | (rw [if_neg (by decide +kernel)]; exact ⟨rfl, rfl⟩))
    (fun os started H enc _ => numericBack_lifted os started H enc)
#print axioms numericBack_said
end Go.Proofs.Ytmhfdjognikilaa
