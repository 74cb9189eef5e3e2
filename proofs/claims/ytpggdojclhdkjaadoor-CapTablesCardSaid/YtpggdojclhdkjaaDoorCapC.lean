/- Layer 7 (cap): from a row's condition (the listed tables read as the program lays them) to the facts that the contracts ask: which number stands in which cell. -/
import Derived.Test.YtpggdojclhdkjaaDoorCapB
import Derived.Test.YtpggdojclhdkjaaDoorTie
import Derived.ProofKit
import Derived.OpenShut
import Derived.LaidMore
import Derived.Lay
import Derived.SevenTiedAt
import Derived.Stop.Joined
import Derived.Lib.LaidTab
namespace Go.Proofs.YtpggdojclhdkjaaDoor
open Go.ChangeShapes Go.WideShapes Go.ChangeAt Go.RowKit

theorem own : ownKnob Tryd.prog.godebug = none := by kernel_rfl

/-- One listed variable out of the list. -/
theorem laid_one {P : Program} {w : World} : ∀ {l : List (String × DataW Unit)} {ps : List MemPlace}, DataW.LaidVars P w l ps → ∀ {n : String} {d : DataW Unit}, (n, d) ∈ l →
    ∃ g t cs fuel p, P.globalNamed n = some g ∧ (P.globals[g]?).map (·.type) = some t ∧ w.var? P n = some cs ∧ DataW.trod (fun _ => ()) P w 0 (fun _ => true) false fuel t cs.toList = some (d, p)
  | [], _, _, _, _, hm => by cases hm
  | (_, _) :: _, _, h, n, d, hm => by
    obtain ⟨g, t, cs, fuel, p, q, hg, ht, hv, hd, hr, _⟩ := h
    rcases List.mem_cons.1 hm with e | hm
    · cases e
      exact ⟨g, t, cs, fuel, p, hg, ht, hv, hd⟩
    · exact laid_one hr hm

theorem tab_of_cells {P : Program} {W : World} {n : String} {g : Nat} {k : IntKind} {zs : List Int} {cs : Array Value} (hg : P.globalNamed n = some g) (hv : W.var? P n = some cs) (hc : cs.toList = zs.map fun z => Value.int k z) : Tab g k zs W := by
  intro i hi
  rw [World.var?_cell hg hv i, ← Array.getElem?_toList, hc, List.getElem?_map, List.getD, List.getElem?_eq_getElem hi]
  rfl

/-- A table of numbers. -/
theorem tab_of {P : Program} {W : World} {laid : List (String × DataW Unit)} {n : String} {k : IntKind} {zs : List Int} {g : Nat} {t e : TypeId} {len : Nat} (h : laidMet P laid W)
    (hm : (n, (Lib.tabData k zs : DataW Unit)) ∈ laid) (hg : P.globalNamed n = some g) (hty : (P.globals[g]?).map (·.type) = some t) (ht : P.underlying t = some (.array len e)) (he : P.underlying e = some (.int k)) (hce : P.cellsOf e = 1) (hct : P.cellsOf t = len) : Tab g k zs W := by
  obtain ⟨ps, hl, _⟩ := h
  obtain ⟨g', t', cs, fuel, p, hg', ht', hv, hd⟩ := laid_one hl hm
  obtain rfl := Option.some.inj (hg.symm.trans hg')
  obtain rfl := Option.some.inj (hty.symm.trans ht')
  exact tab_of_cells hg hv (Lib.cells_of_tab ht he hce hct hd)

theorem flatten_of {α β : Type} (f : α → β) (m : Nat) : ∀ (rows : List (List α)) (cs : List β), cs.length = rows.length * m → (∀ i l, rows[i]? = some l → (cs.drop (i * m)).take m = l.map f) → cs = rows.flatten.map f
  | [], cs, hl, _ => by
    have : cs = [] := by simpa using hl
    simp [this]
  | r :: rows, cs, hl, h => by
    have h0 := h 0 r rfl
    have ih := flatten_of f m rows (cs.drop m) (by simp [hl, Nat.add_mul]) (fun i l hi => by
      have := h (i + 1) l (by simpa using hi)
      rw [List.drop_drop]
      rw [show m + i * m = (i + 1) * m by rw [Nat.add_mul]; omega]
      exact this)
    rw [Nat.zero_mul, List.drop_zero] at h0
    rw [List.flatten_cons, List.map_append, ← h0, ← ih, List.take_append_drop]

/-- A table of rows of numbers. -/
theorem tab2_of {P : Program} {W : World} {laid : List (String × DataW Unit)} {n : String} {k : IntKind} {rows : List (List Int)} {g : Nat} {t e i : TypeId} {len m : Nat} (h : laidMet P laid W)
    (hm : (n, (DataW.agg (rows.map (Lib.tabData k)) : DataW Unit)) ∈ laid) (hg : P.globalNamed n = some g) (hty : (P.globals[g]?).map (·.type) = some t) (ht : P.underlying t = some (.array len e))
    (he : P.underlying e = some (.array m i)) (hi : P.underlying i = some (.int k)) (hci : P.cellsOf i = 1) (hce : P.cellsOf e = m) (hct : P.cellsOf t = len * m) : Tab g k rows.flatten W := by
  obtain ⟨ps, hl, _⟩ := h
  obtain ⟨g', t', cs, fuel, p, hg', ht', hv, hd⟩ := laid_one hl hm
  obtain rfl := Option.some.inj (hg.symm.trans hg')
  obtain rfl := Option.some.inj (hty.symm.trans ht')
  obtain ⟨xs, m', _, ex, hlen, hxl, hel⟩ := DataW.trod_array ht hd
  have exs : xs.map (·.1) = rows.map (Lib.tabData k) := (DataW.agg.inj (Prod.mk.inj ex).1).symm
  have hrl : rows.length = len := by
    have := congrArg List.length exs
    simp at this
    omega
  refine tab_of_cells hg hv (flatten_of _ m rows cs.toList (by rw [hlen, hct, hrl]) fun j l hj => ?_)
  have hjl : j < len := by rw [← hrl]; exact (List.getElem?_eq_some_iff.1 hj).1
  have hE := hel j hjl
  rw [hce] at hE
  have e2 : (xs.map (·.1))[j]? = some (Lib.tabData k l) := by rw [exs, List.getElem?_map, hj]; rfl
  rw [List.getElem?_map] at e2
  cases hx : xs[j]? with
  | none => rw [hx] at e2; cases e2
  | some y =>
    rw [hx] at e2 hE
    obtain ⟨d, q⟩ := y
    simp only [Option.map_some, Option.some.injEq] at e2
    subst e2
    exact Lib.cells_of_tab he hi hci hce hE

theorem tfit_of {W : World} {laid : List (String × DataW Unit)} (h : laidMet Tryd.prog laid W) (hm : ("hackamore/cap.fitting", (Rows.laid_hackamore_cap_fitting : DataW Unit)) ∈ laid) : TFit W :=
  tab2_of (rows := [[0, 0, 0], [518, 1023, 516], [816, 1016, 800], [832, 832, 832], [896, 896, 896], [768, 768, 768], [512, 512, 512]]) (len := 7) (m := 3) (t := 56) (e := 55) (i := 53) h hm (by kernel_rfl) (by kernel_rfl) (by kernel_rfl) (by kernel_rfl) (by kernel_rfl) (by kernel_rfl) (by kernel_rfl) (by kernel_rfl)
theorem tbit_of {W : World} {laid : List (String × DataW Unit)} (h : laidMet Tryd.prog laid W) (hm : ("hackamore/cap.bits", (Rows.laid_hackamore_cap_bits : DataW Unit)) ∈ laid) : TBit W :=
  tab2_of (rows := [[0, 0, 0], [2, 1, 4], [16, 8, 32], [64, 64, 64], [128, 128, 128], [256, 256, 256], [512, 512, 512]]) (len := 7) (m := 3) (t := 56) (e := 55) (i := 53) h hm (by kernel_rfl) (by kernel_rfl) (by kernel_rfl) (by kernel_rfl) (by kernel_rfl) (by kernel_rfl) (by kernel_rfl) (by kernel_rfl)
theorem tview_of {W : World} {laid : List (String × DataW Unit)} (h : laidMet Tryd.prog laid W) (hm : ("hackamore/cap.views", (Rows.laid_hackamore_cap_views : DataW Unit)) ∈ laid) : TView W :=
  tab2_of (rows := [[0, 0, 0, 0, 0, 0, 0], [0, 1, 6, 6, 4, 6, 6], [0, 1, 2, 5, 4, 5, 6], [0, 1, 2, 3, 4, 5, 6], [0, 4, 4, 4, 4, 4, 6], [0, 6, 5, 5, 4, 5, 6], [0, 0, 0, 0, 0, 0, 0]]) (len := 7) (m := 7) (t := 58) (e := 57) (i := 3) h hm (by kernel_rfl) (by kernel_rfl) (by kernel_rfl) (by kernel_rfl) (by kernel_rfl) (by kernel_rfl) (by kernel_rfl) (by kernel_rfl)
theorem tstore_of {W : World} {laid : List (String × DataW Unit)} (h : laidMet Tryd.prog laid W) (hm : ("hackamore/cap.stores", (Rows.laid_hackamore_cap_stores : DataW Unit)) ∈ laid) : TStore W :=
  tab_of (len := 7) (t := 59) (e := 53) h hm (by kernel_rfl) (by kernel_rfl) (by kernel_rfl) (by kernel_rfl) (by kernel_rfl) (by kernel_rfl)
theorem tloc_of {W : World} {laid : List (String × DataW Unit)} (h : laidMet Tryd.prog laid W) (hm : ("hackamore/cap.locals", (Rows.laid_hackamore_cap_locals : DataW Unit)) ∈ laid) : TLoc W :=
  tab_of (len := 7) (t := 59) (e := 53) h hm (by kernel_rfl) (by kernel_rfl) (by kernel_rfl) (by kernel_rfl) (by kernel_rfl) (by kernel_rfl)
theorem tglob_of {W : World} {laid : List (String × DataW Unit)} (h : laidMet Tryd.prog laid W) (hm : ("hackamore/cap.globals", (Rows.laid_hackamore_cap_globals : DataW Unit)) ∈ laid) : TGlob W :=
  tab_of (len := 7) (t := 59) (e := 53) h hm (by kernel_rfl) (by kernel_rfl) (by kernel_rfl) (by kernel_rfl) (by kernel_rfl) (by kernel_rfl)
theorem trec_of {W : World} {laid : List (String × DataW Unit)} (h : laidMet Tryd.prog laid W) (hm : ("hackamore/cap.recovered", (Rows.laid_hackamore_cap_recovered : DataW Unit)) ∈ laid) : TRec W :=
  tab_of (len := 7) (t := 57) (e := 3) h hm (by kernel_rfl) (by kernel_rfl) (by kernel_rfl) (by kernel_rfl) (by kernel_rfl) (by kernel_rfl)
theorem tmem_of {W : World} {laid : List (String × DataW Unit)} (h : laidMet Tryd.prog laid W) (hm : ("hackamore/cap.members", (Rows.laid_hackamore_cap_members : DataW Unit)) ∈ laid) : TMem W :=
  tab_of (len := 12) (t := 54) (e := 53) h hm (by kernel_rfl) (by kernel_rfl) (by kernel_rfl) (by kernel_rfl) (by kernel_rfl) (by kernel_rfl)

theorem u8_bd {a : Int} (h : (Lit.int .u8 a).wf = true) : 0 ≤ a ∧ a ≤ 255 := by
  have := bounds_u8 h
  omega
end Go.Proofs.YtpggdojclhdkjaaDoor
