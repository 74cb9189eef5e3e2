/- Layer 7 (cap): from a row's condition to the table of names; the row's last step behind a call that makes memory. -/
import Derived.Test.YtpggdojclhdkjaaDoorCapC
import Derived.Test.YtpggdojclhdkjaaDoorCapH
namespace Go.Proofs.YtpggdojclhdkjaaDoor
open Go.ChangeShapes Go.WideShapes Go.ChangeAt Go.RowKit

theorem var_heap {P : Program} {w : World} {n : String} {g : Nat} {cs : Array Value} (hg : P.globalNamed n = some g) (h : w.var? P n = some cs) : ∃ t fr, w.heap[g]? = some (.cells cs t fr) := by
  simp only [World.var?, hg, Option.bind_some] at h
  split at h <;> simp_all

theorem strs_of {H : Type} {enc : TypeId × Value → H} {P : Program} {w : World} {base : Nat} {sp : Nat → Bool} {held : Bool} {fuel : Nat} {t e : TypeId} {n : Nat} {cs : List Value} {ss : List (List UInt8)} {p : List MemPlace}
    (ht : P.underlying t = some (.array n e)) (he : P.underlying e = some .string) (hce : P.cellsOf e = 1) (hct : P.cellsOf t = n)
    (h : DataW.trod enc P w base sp held fuel t cs = some (.agg (ss.map fun b => .lit (.string b)), p)) : cs = ss.map fun b => Value.string ⟨b.toArray⟩ := by
  obtain ⟨xs, m, _, ex, hlen, hxl, hel⟩ := DataW.trod_array ht h
  have exs : xs.map (·.1) = ss.map fun b => (DataW.lit (.string b) : DataW H) := (DataW.agg.inj (Prod.mk.inj ex).1).symm
  have hsl : ss.length = n := by
    have := congrArg List.length exs
    simp at this
    omega
  apply List.ext_getElem?
  intro i
  by_cases hi : i < n
  · have hE := hel i hi
    rw [hce, Nat.mul_one, List.getElem?_eq_getElem (by omega)] at hE
    obtain ⟨s, e1, e2, _⟩ := DataW.trod_string he hE
    have h1 : cs[i]? = some (.string s) := by
      have := congrArg (·[0]?) e1
      simpa [List.getElem?_take, List.getElem?_drop] using this
    have h2 : (xs.map (·.1))[i]? = some (DataW.lit (.string s.data.toList) : DataW H) := by
      rw [List.getElem?_map, List.getElem?_eq_getElem (by omega), e2]
      rfl
    rw [exs, List.getElem?_map, List.getElem?_eq_getElem (by omega : i < ss.length)] at h2
    simp only [Option.map_some, Option.some.injEq, DataW.lit.injEq, Lit.string.injEq] at h2
    rw [h1, List.getElem?_map, List.getElem?_eq_getElem (by omega : i < ss.length), h2]
    rfl
  · rw [List.getElem?_eq_none (by omega), List.getElem?_eq_none (by simp; omega)]

theorem tname_of {W : World} {laid : List (String × DataW Unit)} (h : laidMet Tryd.prog laid W) (hm : ("hackamore/cap.names", (Rows.laid_hackamore_cap_names : DataW Unit)) ∈ laid) : TName W := by
  obtain ⟨ps, hl, _⟩ := h
  obtain ⟨g', t', cs, fuel, p, hg', ht', hv, hd⟩ := laid_one hl hm
  obtain rfl := Option.some.inj ((show Tryd.prog.globalNamed "hackamore/cap.names" = some 0 by kernel_rfl).symm.trans hg')
  obtain rfl := Option.some.inj ((show (Tryd.prog.globals[0]?).map (·.type) = some 50 by kernel_rfl).symm.trans ht')
  have e := strs_of (n := 12) (e := 9) (ss := nameL) (by kernel_rfl) (by kernel_rfl) (by kernel_rfl) (by kernel_rfl) hd
  obtain ⟨t, fr, hh⟩ := var_heap hg' hv
  have ec : cs = namesV := by
    obtain ⟨l⟩ := cs
    have e' : l = nameL.map fun b => Value.string ⟨b.toArray⟩ := e
    subst e'
    rfl
  exact ⟨t, fr, by rw [← ec]; exact hh⟩

/-- 'post' behind a call that wrote nothing that was there: numbers and strings came in, a bool goes out. -/
theorem post_below {H : Type} {enc : TypeId × Value → H} {P : Program} {f : Func} {s : ChangeSpec} {fresh again : Bool} {W W' : World} {args : Array Value} {v : Value} {ds gs : List (DataW H)}
    (hW : DataW.Whole enc P f.params.toList s.vars false W args.toList ds gs [])
    (hres : ∀ (b : Nat) (sp : Nat → Bool) (hd : Bool), DataW.TrodAll enc P W' b sp hd f.resultTypes.toList (v.resultList f.resultTypes.size) (s.fn H (ds ++ gs)).results [])
    (hargs : ∀ sp : Nat → Bool, DataW.TrodAll enc P W' 0 sp true f.params.toList args.toList (s.fn H (ds ++ gs)).args [])
    (hvars : ∀ sp : Nat → Bool, DataW.TrodVars enc P W' sp s.vars (s.fn H (ds ++ gs)).vars []) (hb : Below W.heap.size W W')
    (hok : ∀ (j : Nat) (t : TypeId) (r : Value), f.resultTypes[j]? = some t → (v.resultList f.resultTypes.size)[j]? = some r → Value.okWide P W' .any 0 t r) :
    s.post enc P f false fresh false again W args v W' := by
  refine ⟨ds, gs, [], [], [], [], hW, hres _ _ _, hargs _, hvars _, World.keptBut_mono (fun p hp => absurd hp (by simp)) (hb.frame (fun _ => False)), fun _ => ?_⟩
  exact ⟨hok, _, _, _, ⟨_, _, trodAll_append (hargs _) (hres _ _ _), hvars _, rfl, fun b o hp => by simp at hp, fun h => by cases h⟩, fun p hp => by simp at hp⟩
end Go.Proofs.YtpggdojclhdkjaaDoor
