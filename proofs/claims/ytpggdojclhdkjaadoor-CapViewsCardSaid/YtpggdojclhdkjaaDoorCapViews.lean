/- CapViews (P7.1): for all three numbers View, Extract, Store, Local and Global are those of the reference. No condition but the tables of the program's own text. -/
import Derived.Test.YtpggdojclhdkjaaDoorCapC
import Derived.Test.YtpggdojclhdkjaaDoorCapD
import Derived.Test.YtpggdojclhdkjaaDoorCapE
import Derived.Test.YtpggdojclhdkjaaDoorCards
namespace Go.Proofs.YtpggdojclhdkjaaDoor
open Go.ChangeShapes Go.WideShapes Go.ChangeAt Go.RowKit


theorem capViews_walk (a b m : Int) (w : World) (hF : TFit w) (hB : TBit w) (hV : TView w) (hS : TStore w) (hLo : TLoc w) (hG : TGlob w) :
    Calls Tryd.prog 4 #[.int .i64 a, .int .i64 b, .int .i64 m] w fun e w' => e = .returned (.bool true) ∧ ∃ n, w' = w.drewN n := by
  go_enter Tryd.func4, Tryd.ntmps4
  go_wp2_with (first
    | (go_at_call 35; refine (view_any _ _ _ (by repeat (first | exact hV | refine Tab.drew ?_))).mono ?_; rintro e w' ⟨rfl, rfl⟩)
    | (go_at_call 37; refine (extract_any _ _ _ (by repeat (first | exact hV | refine Tab.drew ?_))).mono ?_; rintro e w' ⟨rfl, rfl⟩)
    | (go_at_call 39; refine (store_any _ _ _ _ (by repeat (first | exact hS | refine Tab.drew ?_))).mono ?_; rintro e w' ⟨rfl, nq, rfl⟩)
    | (go_at_call 41; refine (local_any _ _ _ (by repeat (first | exact hLo | refine Tab.drew ?_))).mono ?_; rintro e w' ⟨rfl, rfl⟩)
    | (go_at_call 43; refine (global_any _ _ _ (by repeat (first | exact hG | refine Tab.drew ?_))).mono ?_; rintro e w' ⟨rfl, rfl⟩)
    | (go_at_call 36; refine (rview_any _ _ _).mono ?_; rintro e w' ⟨rfl, rfl⟩)
    | (go_at_call 38; refine (rextract_any _ _ _).mono ?_; rintro e w' ⟨rfl, rfl⟩)
    | (go_at_call 40; refine (rstore_any _ _ _ _).mono ?_; rintro e w' ⟨rfl, rfl⟩)
    | (go_at_call 42; refine (rlocal_any _ _ _).mono ?_; rintro e w' ⟨rfl, rfl⟩)
    | (go_at_call 44; refine (rglobal_any _ _ _).mono ?_; rintro e w' ⟨rfl, rfl⟩)
    | (go_at_call 34; refine (awake_any _ (by repeat (first | exact hF | refine Tab.drew ?_)) (by repeat (first | exact hB | refine Tab.drew ?_)) (by repeat (first | exact hV | refine Tab.drew ?_))).mono ?_; rintro e w' ⟨rfl, nq, rfl⟩))
  go_ret
  exact ⟨rfl, (by repeat (first | exact Dr.refl _ | refine Dr.drew ?_) : Dr _ _)⟩

theorem capViews_laid {W : World} (h : laidMetH Tryd.prog Rows.capViewsRow.laid W) : TFit W ∧ TBit W ∧ TView W ∧ TStore W ∧ TLoc W ∧ TGlob W := by
  rw [MakeChecks.laidMetH_plain _ _ _ (by kernel_rfl)] at h
  exact ⟨tfit_of h (List.mem_of_getElem? (i := 5) rfl), tbit_of h (List.mem_of_getElem? (i := 4) rfl), tview_of h (List.mem_of_getElem? (i := 0) rfl), tstore_of h (List.mem_of_getElem? (i := 1) rfl), tloc_of h (List.mem_of_getElem? (i := 2) rfl), tglob_of h (List.mem_of_getElem? (i := 3) rfl)⟩

set_option maxRecDepth 100000 in
theorem capViews_lifted (os : Os) (started : os.Started) (H : Type) (enc : TypeId × Value → H) :
    ReturnsInHanded {} Tryd.checked os 4 .any (fun w args => (Rows.capViewsSpec.pre enc Tryd.prog Tryd.f4 Rows.capViewsRow.domain false w args ∧ laidMetH Tryd.prog Rows.capViewsRow.laid w) ∧ sizedMet enc Tryd.prog Tryd.f4 (OpenSpec.ofChange Rows.capViewsSpec) false w args)
      (Rows.capViewsSpec.post enc Tryd.prog Tryd.f4 false true false false) := by
  refine returnsInHanded_of_change_and (C := Tryd.checked) (X := fun w _ => laidMetH Tryd.prog Rows.capViewsRow.laid w) (fun _ _ _ hh h => h.of_heap hh) own started (by kernel_rfl) Tryd.func4
    (ChangeSpec.witness_shaped (enc := enc) (C := Tryd.checked) (os := os) (X := fun w _ => laidMetH Tryd.prog Rows.capViewsRow.laid w) false (World.laidAll Tryd.prog os Rows.capViewsRow.laid) #[.int .i64 0, .int .i64 0, .int .i64 0] 8 (World.laidAll_os _ _ _)
      (World.shaped_of_ZipB (by kernel_rfl) (by kernel_rfl)) (by kernel_rfl) (by kernel_rfl) (by kernel_rfl)
      (by rw [MakeChecks.laidMetH_plain _ _ _ (by kernel_rfl)]; exact laidMet_laidAll _ (by kernel_rfl) (by kernel_rfl))) ?_
  intro W base args ds gs before hval0 hW _ _ hL _
  have hval : ∀ (j : Nat) t v, Tryd.f4.params[j]? = some t → args[j]? = some v → Value.okWide Tryd.prog W .any base t v := hval0
  have hW' := hW
  obtain ⟨p, q, hA0, hV, rfl, _, _⟩ := hW
  have hA : DataW.TrodAll enc Tryd.prog W 0 (fun _ => true) true Tryd.f4.params.toList args.toList ds p := hA0
  rw [Tryd.params4] at hA hval
  obtain ⟨v0, vs0, d0, ds0, p0, q0, hargs, rfl, rfl, h0, r0⟩ := trodAll_cons hA
  obtain ⟨v1, vs1, d1, ds1, p1, q1, rfl, rfl, rfl, h1, r1⟩ := trodAll_cons r0
  obtain ⟨v2, vs2, d2, ds2, p2, q2, rfl, rfl, rfl, h2, r2⟩ := trodAll_cons r1
  obtain ⟨rfl, rfl, rfl⟩ := trodAll_nil r2
  obtain rfl : args = #[v0, v1, v2] := by cases args; simp_all
  obtain ⟨rfl, rfl⟩ := trodVars_none hV
  obtain ⟨a0, rfl, rfl, rfl, w0⟩ := open_int Tryd.underlying3 (hval 0 3 v0 rfl rfl) h0
  obtain ⟨a1, rfl, rfl, rfl, w1⟩ := open_int Tryd.underlying3 (hval 1 3 v1 rfl rfl) h1
  obtain ⟨a2, rfl, rfl, rfl, w2⟩ := open_int Tryd.underlying3 (hval 2 3 v2 rfl rfl) h2
  obtain ⟨thF, thB, thV, thS, thLo, thG⟩ := capViews_laid hL
  clear hA0 hval0
  simp only [List.append_nil] at hW'
  refine (capViews_walk a0 a1 a2  W thF thB thV thS thLo thG).mono fun e W' ⟨he, nq, hw⟩ => ?_
  subst he
  subst hw
  exact ⟨_, rfl, ChangeSpec.post_alike (post_of_same (pa := []) (pv := []) hW' (fun _ _ _ => (trodAll_cons_mk (shut_bool Tryd.underlying4 _) trodAll_mk0)) (fun sp _ => (trodAll_cons_mk (shut_int Tryd.underlying3 w0) (trodAll_cons_mk (shut_int Tryd.underlying3 w1) (trodAll_cons_mk (shut_int Tryd.underlying3 w2) trodAll_mk0)))) (fun _ _ => rfl) rfl
    (World.keptBut_refl _ _) (fun _ => rfl) (ok_one (by kernel_rfl) rfl (okWide_bool_mk Tryd.underlying4 _))) ⟨rfl, rfl, rfl⟩⟩

theorem capViews_said : Rows.CapViewsSaid :=
  OpenClaim.holds_of_wide 4 Tryd.f4 rfl rfl rfl rfl rfl rfl rfl ⟨rfl, rfl, rfl, rfl, rfl⟩ rfl rfl rfl rfl rfl (by kernel_rfl) Tryd.func4 (by kernel_rfl)
    (of_decide_eq_true (by kernel_rfl)) (by unfold Func.isWrapper; first | (rw [if_pos (by decide +kernel)]; kernel_rfl) | (rw [if_neg (by decide +kernel)]; exact ⟨rfl, rfl⟩))
    (fun os started H enc _ => capViews_lifted os started H enc)

theorem capViews_holds : Rows.CapViewsCardSaid :=
  Claim7.holds_tied_plain_at .later [] Rows.capViewsCard.laidKinds true Rows.capViewsCard.stood.harness false
    capViews_said (fun _ h => by cases h) (by kernel_rfl) (fun _ h => by cases h) capViews_row_tie rfl ⟨rfl, rfl⟩ (by kernel_rfl) rfl
    (fun f fn hf hfn => by
      obtain rfl : f = 4 := Option.some.inj ((show Tryd.prog.funcNamed "hackamore/hackamorelaw07.CapViews" = some 4 by kernel_rfl).symm.trans hf) |>.symm
      obtain rfl : fn = Tryd.f4 := (Option.some.inj (Tryd.func4.symm.trans hfn)).symm
      exact ⟨by kernel_rfl, fun j t ht => by
        rw [Tryd.params4] at ht
        have hm : t ∈ [3] := by
          have := Array.mem_of_getElem? ht
          simpa using this
        have hall : ([3].all fun u => !Tryd.prog.wantsStandIn u) = true := by kernel_rfl
        exact (show Tryd.prog.wantsStandIn t = false by simpa using List.all_eq_true.1 hall t hm)⟩)
    (by kernel_rfl)
#print axioms capViews_holds
end Go.Proofs.YtpggdojclhdkjaaDoor
