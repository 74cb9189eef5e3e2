/- CapSets (P7.5): for every number the law returns true: the members of a set are those of its definition, each once and ascending, and Parse of Name is the number. No condition but the tables of the program's own text. -/
import Derived.Test.YtpggdojclhdkjaaDoorCapJ
import Derived.Test.YtpggdojclhdkjaaDoorCapSets
import Derived.Test.YtpggdojclhdkjaaDoorCards
namespace Go.Proofs.YtpggdojclhdkjaaDoor
open Go.ChangeShapes Go.WideShapes Go.ChangeAt Go.RowKit

theorem capSets_laid {W : World} (h : laidMetH Tryd.prog Rows.capSetsRow.laid W) : TFit W ∧ TBit W ∧ TView W ∧ TGlob W ∧ TMem W ∧ TName W := by
  rw [MakeChecks.laidMetH_plain _ _ _ (by kernel_rfl)] at h
  exact ⟨tfit_of h (List.mem_of_getElem? (i := 5) rfl), tbit_of h (List.mem_of_getElem? (i := 4) rfl), tview_of h (List.mem_of_getElem? (i := 2) rfl), tglob_of h (List.mem_of_getElem? (i := 3) rfl), tmem_of h (List.mem_of_getElem? (i := 1) rfl), tname_of h (List.mem_of_getElem? (i := 0) rfl)⟩

set_option maxRecDepth 100000 in
theorem capSets_lifted (os : Os) (started : os.Started) (H : Type) (enc : TypeId × Value → H) :
    ReturnsInHanded {} Tryd.checked os 8 .any (fun w args => (Rows.capSetsSpec.pre enc Tryd.prog Tryd.f8 Rows.capSetsRow.domain false w args ∧ laidMetH Tryd.prog Rows.capSetsRow.laid w) ∧ sizedMet enc Tryd.prog Tryd.f8 (OpenSpec.ofChange Rows.capSetsSpec) false w args)
      (Rows.capSetsSpec.post enc Tryd.prog Tryd.f8 false true false false) := by
  refine returnsInHanded_of_change_and (C := Tryd.checked) (X := fun w _ => laidMetH Tryd.prog Rows.capSetsRow.laid w) (fun _ _ _ hh h => h.of_heap hh) own started (by kernel_rfl) Tryd.func8
    (ChangeSpec.witness_shaped (enc := enc) (C := Tryd.checked) (os := os) (X := fun w _ => laidMetH Tryd.prog Rows.capSetsRow.laid w) false (World.laidAll Tryd.prog os Rows.capSetsRow.laid) #[.int .u8 0] 8 (World.laidAll_os _ _ _)
      (World.shaped_of_ZipB (by kernel_rfl) (by kernel_rfl)) (by kernel_rfl) (by kernel_rfl) (by kernel_rfl)
      (by rw [MakeChecks.laidMetH_plain _ _ _ (by kernel_rfl)]; exact laidMet_laidAll _ (by kernel_rfl) (by kernel_rfl))) ?_
  intro W base args ds gs before hval0 hW _ _ hL _
  have hval : ∀ (j : Nat) t v, Tryd.f8.params[j]? = some t → args[j]? = some v → Value.okWide Tryd.prog W .any base t v := hval0
  have hW' := hW
  obtain ⟨p, q, hA0, hV, rfl, _, _⟩ := hW
  have hA : DataW.TrodAll enc Tryd.prog W 0 (fun _ => true) true Tryd.f8.params.toList args.toList ds p := hA0
  rw [Tryd.params8] at hA hval
  obtain ⟨v0, vs0, d0, ds0, p0, q0, hargs, rfl, rfl, h0, r0⟩ := trodAll_cons hA
  obtain ⟨rfl, rfl, rfl⟩ := trodAll_nil r0
  obtain rfl : args = #[v0] := by cases args; simp_all
  obtain ⟨rfl, rfl⟩ := trodVars_none hV
  obtain ⟨a0, rfl, rfl, rfl, w0⟩ := open_int Tryd.underlying5 (hval 0 5 v0 rfl rfl) h0
  obtain ⟨thF, thB, thV, thG, thMe, thN⟩ := capSets_laid hL
  clear hA0 hval0
  simp only [List.append_nil] at hW'
  refine (capSets_walk a0 (u8_bd w0) W thF thB thV thG thMe thN).mono fun e W' ⟨he, hb⟩ => ?_
  subst he
  exact ⟨_, rfl, post_below hW' (fun _ _ _ => (trodAll_cons_mk (shut_bool Tryd.underlying4 _) trodAll_mk0)) (fun sp => (trodAll_cons_mk (shut_int Tryd.underlying5 w0) trodAll_mk0)) (fun _ => rfl) hb
    (ok_one (by kernel_rfl) rfl (okWide_bool_mk Tryd.underlying4 _))⟩

theorem capSets_said : Rows.CapSetsSaid :=
  OpenClaim.holds_of_wide 8 Tryd.f8 rfl rfl rfl rfl rfl rfl rfl ⟨rfl, rfl, rfl, rfl, rfl⟩ rfl rfl rfl rfl rfl (by kernel_rfl) Tryd.func8 (by kernel_rfl)
    (of_decide_eq_true (by kernel_rfl)) (by unfold Func.isWrapper; first | (rw [if_pos (by decide +kernel)]; kernel_rfl) | (rw [if_neg (by decide +kernel)]; exact ⟨rfl, rfl⟩))
    (fun os started H enc _ => capSets_lifted os started H enc)

theorem capSets_holds : Rows.CapSetsCardSaid :=
  Claim7.holds_tied_plain_at .later [] Rows.capSetsCard.laidKinds true Rows.capSetsCard.stood.harness false
    capSets_said (fun _ h => by cases h) (by kernel_rfl) (fun _ h => by cases h) capSets_row_tie rfl ⟨rfl, rfl⟩ (by kernel_rfl) rfl
    (fun f fn hf hfn => by
      obtain rfl : f = 8 := Option.some.inj ((show Tryd.prog.funcNamed "hackamore/hackamorelaw07.CapSets" = some 8 by kernel_rfl).symm.trans hf) |>.symm
      obtain rfl : fn = Tryd.f8 := (Option.some.inj (Tryd.func8.symm.trans hfn)).symm
      exact ⟨by kernel_rfl, fun j t ht => by
        rw [Tryd.params8] at ht
        have hm : t ∈ [5] := by
          have := Array.mem_of_getElem? ht
          simpa using this
        have hall : ([5].all fun u => !Tryd.prog.wantsStandIn u) = true := by kernel_rfl
        exact (show Tryd.prog.wantsStandIn t = false by simpa using List.all_eq_true.1 hall t hm)⟩)
    (by kernel_rfl)
#print axioms capSets_holds
end Go.Proofs.YtpggdojclhdkjaaDoor
