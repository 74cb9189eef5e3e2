/- CapBeside (P7.4): for all three numbers the law returns true: Local and Global are symmetric, Global implies Local, and what may stand beside what. No condition but the tables of the program's own text. -/
import Derived.Test.YtpggdojclhdkjaaDoorCapC
import Derived.Test.YtpggdojclhdkjaaDoorCards
namespace Go.Proofs.YtpggdojclhdkjaaDoor
open Go.ChangeShapes Go.WideShapes Go.ChangeAt Go.RowKit

theorem beside_run : (caps.all fun x => caps.all fun y => (loc x y == loc y x) && (glob x y == glob y x) && (!glob x y || (loc x y && !(writes x && reads y))) && (!fits (alC x 0) (alM x 0) y 0 || loc x y)
    && caps.all fun z => !(fits x 1 y 0 && sendable y && loc x z) || glob y z) = true := by kernel_rfl
set_option synthInstance.maxSize 100000 in
set_option synthInstance.maxHeartbeats 400000 in
set_option maxRecDepth 100000 in
theorem beside_of {x y z : Int} (hx : 1 ≤ x ∧ x ≤ 6) (hy : 1 ≤ y ∧ y ≤ 6) (hz : 1 ≤ z ∧ z ≤ 6) :
    ((loc x y = false ∧ loc y x = false ∧ glob x y = false ∧ glob y x = false ∧ fits (alC x 0) (alM x 0) y 0 = false) ∨
      (loc x y = true ∧ loc y x = true ∧ ((glob x y = false ∧ glob y x = false) ∨ (glob x y = true ∧ glob y x = true ∧ (writes x = false ∨ (writes x = true ∧ reads y = false)))) ∧
        (fits (alC x 0) (alM x 0) y 0 = false ∨ fits (alC x 0) (alM x 0) y 0 = true))) ∧
    (fits x 1 y 0 = false ∨ (fits x 1 y 0 = true ∧ (sendable y = false ∨ (sendable y = true ∧ (loc x z = false ∨ (loc x z = true ∧ glob y z = true)))))) := by
  have h := all_caps (all_caps beside_run hx) hy
  have h2 : (!(fits x 1 y 0 && sendable y && loc x z) || glob y z) = true := all_caps (Bool.and_eq_true _ _ ▸ h).2 hz
  have h1 := (Bool.and_eq_true _ _ ▸ h).1
  clear h
  revert h1 h2
  generalize loc x y = b1
  generalize loc y x = b2
  generalize glob x y = b3
  generalize glob y x = b4
  generalize fits (alC x 0) (alM x 0) y 0 = b5
  generalize fits x 1 y 0 = b6
  generalize sendable y = b7
  generalize loc x z = b8
  generalize glob y z = b9
  generalize writes x = b10
  generalize reads y = b11
  revert b1 b2 b3 b4 b5 b6 b7 b8 b9 b10 b11
  decide +kernel

set_option maxHeartbeats 16000000 in
theorem capBeside_walk (a b c : Int) (ha : 0 ≤ a ∧ a ≤ 255) (hb : 0 ≤ b ∧ b ≤ 255) (hc : 0 ≤ c ∧ c ≤ 255) (w : World) (hF : TFit w) (hB : TBit w) (hV : TView w) (hLo : TLoc w) (hG : TGlob w) :
    Calls Tryd.prog 7 #[.int .u8 a, .int .u8 b, .int .u8 c] w fun e w' => e = .returned (.bool true) ∧ ∃ n, w' = w.drewN n := by
  have hx : 1 ≤ 1 + a % 6 ∧ 1 + a % 6 ≤ 6 := by omega
  have hy : 1 ≤ 1 + b % 6 ∧ 1 + b % 6 ≤ 6 := by omega
  have hz : 1 ≤ 1 + c % 6 ∧ 1 + c % 6 ≤ 6 := by omega
  have pm := beside_of hx hy hz
  clear hx hy hz
  obtain ⟨d1, d2⟩ := pm
  rcases d2 with e6 | ⟨e6, e7 | ⟨e7, e8 | ⟨e8, e9⟩⟩⟩
  all_goals
    rcases d1 with ⟨e1, e2, e3, e4, e5⟩ | ⟨e1, e2, d3, d4⟩
    · (
          go_enter Tryd.func7, Tryd.ntmps7
          go_wp2_with (first
            | (go_at_call 45; refine (one_any _ _ (by assumption)).mono ?_; rintro e w' ⟨rfl, rfl⟩)
            | (go_at_call 18; refine (reads_any _ _).mono ?_; rintro e w' ⟨rfl, rfl⟩)
            | (go_at_call 20; refine (writes_any _ _).mono ?_; rintro e w' ⟨rfl, rfl⟩)
            | (go_at_call 22; refine (sendable_any _ _).mono ?_; rintro e w' ⟨rfl, rfl⟩)
            | (go_at_call 28; refine (alias_any _ _ _).mono ?_; rintro e w' ⟨rfl, rfl⟩)
            | (go_at_call 41; refine (local_any _ _ _ (by repeat (first | exact hLo | refine Tab.drew ?_))).mono ?_; rintro e w' ⟨rfl, rfl⟩)
            | (go_at_call 43; refine (global_any _ _ _ (by repeat (first | exact hG | refine Tab.drew ?_))).mono ?_; rintro e w' ⟨rfl, rfl⟩)
            | (go_at_call 24; refine (sub_any _ _ _ (by repeat (first | exact hF | refine Tab.drew ?_)) (by repeat (first | exact hB | refine Tab.drew ?_))).mono ?_; rintro e w' ⟨rfl, nq, rfl⟩)
            | (go_at_call 26; refine (fits_any _ _ _ _ _ (by repeat (first | exact hF | refine Tab.drew ?_)) (by repeat (first | exact hB | refine Tab.drew ?_))).mono ?_; rintro e w' ⟨rfl, nq, rfl⟩)
            | (go_at_call 34; refine (awake_any _ (by repeat (first | exact hF | refine Tab.drew ?_)) (by repeat (first | exact hB | refine Tab.drew ?_)) (by repeat (first | exact hV | refine Tab.drew ?_))).mono ?_; rintro e w' ⟨rfl, nq, rfl⟩))
          go_ret
          exact ⟨rfl, (by repeat (first | exact Dr.refl _ | refine Dr.drew ?_) : Dr _ _)⟩)
    · rcases d3 with ⟨e3, e4⟩ | ⟨e3, e4, e10 | ⟨e10, e11⟩⟩ <;> rcases d4 with e5 | e5
      all_goals (
          go_enter Tryd.func7, Tryd.ntmps7
          go_wp2_with (first
            | (go_at_call 45; refine (one_any _ _ (by assumption)).mono ?_; rintro e w' ⟨rfl, rfl⟩)
            | (go_at_call 18; refine (reads_any _ _).mono ?_; rintro e w' ⟨rfl, rfl⟩)
            | (go_at_call 20; refine (writes_any _ _).mono ?_; rintro e w' ⟨rfl, rfl⟩)
            | (go_at_call 22; refine (sendable_any _ _).mono ?_; rintro e w' ⟨rfl, rfl⟩)
            | (go_at_call 28; refine (alias_any _ _ _).mono ?_; rintro e w' ⟨rfl, rfl⟩)
            | (go_at_call 41; refine (local_any _ _ _ (by repeat (first | exact hLo | refine Tab.drew ?_))).mono ?_; rintro e w' ⟨rfl, rfl⟩)
            | (go_at_call 43; refine (global_any _ _ _ (by repeat (first | exact hG | refine Tab.drew ?_))).mono ?_; rintro e w' ⟨rfl, rfl⟩)
            | (go_at_call 24; refine (sub_any _ _ _ (by repeat (first | exact hF | refine Tab.drew ?_)) (by repeat (first | exact hB | refine Tab.drew ?_))).mono ?_; rintro e w' ⟨rfl, nq, rfl⟩)
            | (go_at_call 26; refine (fits_any _ _ _ _ _ (by repeat (first | exact hF | refine Tab.drew ?_)) (by repeat (first | exact hB | refine Tab.drew ?_))).mono ?_; rintro e w' ⟨rfl, nq, rfl⟩)
            | (go_at_call 34; refine (awake_any _ (by repeat (first | exact hF | refine Tab.drew ?_)) (by repeat (first | exact hB | refine Tab.drew ?_)) (by repeat (first | exact hV | refine Tab.drew ?_))).mono ?_; rintro e w' ⟨rfl, nq, rfl⟩))
          go_ret
          exact ⟨rfl, (by repeat (first | exact Dr.refl _ | refine Dr.drew ?_) : Dr _ _)⟩)

theorem capBeside_laid {W : World} (h : laidMetH Tryd.prog Rows.capBesideRow.laid W) : TFit W ∧ TBit W ∧ TView W ∧ TLoc W ∧ TGlob W := by
  rw [MakeChecks.laidMetH_plain _ _ _ (by kernel_rfl)] at h
  exact ⟨tfit_of h (List.mem_of_getElem? (i := 4) rfl), tbit_of h (List.mem_of_getElem? (i := 3) rfl), tview_of h (List.mem_of_getElem? (i := 0) rfl), tloc_of h (List.mem_of_getElem? (i := 1) rfl), tglob_of h (List.mem_of_getElem? (i := 2) rfl)⟩

set_option maxRecDepth 100000 in
theorem capBeside_lifted (os : Os) (started : os.Started) (H : Type) (enc : TypeId × Value → H) :
    ReturnsInHanded {} Tryd.checked os 7 .any (fun w args => (Rows.capBesideSpec.pre enc Tryd.prog Tryd.f7 Rows.capBesideRow.domain false w args ∧ laidMetH Tryd.prog Rows.capBesideRow.laid w) ∧ sizedMet enc Tryd.prog Tryd.f7 (OpenSpec.ofChange Rows.capBesideSpec) false w args)
      (Rows.capBesideSpec.post enc Tryd.prog Tryd.f7 false true false false) := by
  refine returnsInHanded_of_change_and (C := Tryd.checked) (X := fun w _ => laidMetH Tryd.prog Rows.capBesideRow.laid w) (fun _ _ _ hh h => h.of_heap hh) own started (by kernel_rfl) Tryd.func7
    (ChangeSpec.witness_shaped (enc := enc) (C := Tryd.checked) (os := os) (X := fun w _ => laidMetH Tryd.prog Rows.capBesideRow.laid w) false (World.laidAll Tryd.prog os Rows.capBesideRow.laid) #[.int .u8 0, .int .u8 0, .int .u8 0] 8 (World.laidAll_os _ _ _)
      (World.shaped_of_ZipB (by kernel_rfl) (by kernel_rfl)) (by kernel_rfl) (by kernel_rfl) (by kernel_rfl)
      (by rw [MakeChecks.laidMetH_plain _ _ _ (by kernel_rfl)]; exact laidMet_laidAll _ (by kernel_rfl) (by kernel_rfl))) ?_
  intro W base args ds gs before hval0 hW _ _ hL _
  have hval : ∀ (j : Nat) t v, Tryd.f7.params[j]? = some t → args[j]? = some v → Value.okWide Tryd.prog W .any base t v := hval0
  have hW' := hW
  obtain ⟨p, q, hA0, hV, rfl, _, _⟩ := hW
  have hA : DataW.TrodAll enc Tryd.prog W 0 (fun _ => true) true Tryd.f7.params.toList args.toList ds p := hA0
  rw [Tryd.params7] at hA hval
  obtain ⟨v0, vs0, d0, ds0, p0, q0, hargs, rfl, rfl, h0, r0⟩ := trodAll_cons hA
  obtain ⟨v1, vs1, d1, ds1, p1, q1, rfl, rfl, rfl, h1, r1⟩ := trodAll_cons r0
  obtain ⟨v2, vs2, d2, ds2, p2, q2, rfl, rfl, rfl, h2, r2⟩ := trodAll_cons r1
  obtain ⟨rfl, rfl, rfl⟩ := trodAll_nil r2
  obtain rfl : args = #[v0, v1, v2] := by cases args; simp_all
  obtain ⟨rfl, rfl⟩ := trodVars_none hV
  obtain ⟨a0, rfl, rfl, rfl, w0⟩ := open_int Tryd.underlying5 (hval 0 5 v0 rfl rfl) h0
  obtain ⟨a1, rfl, rfl, rfl, w1⟩ := open_int Tryd.underlying5 (hval 1 5 v1 rfl rfl) h1
  obtain ⟨a2, rfl, rfl, rfl, w2⟩ := open_int Tryd.underlying5 (hval 2 5 v2 rfl rfl) h2
  obtain ⟨thF, thB, thV, thLo, thG⟩ := capBeside_laid hL
  clear hA0 hval0
  simp only [List.append_nil] at hW'
  refine (capBeside_walk a0 a1 a2 (u8_bd w0) (u8_bd w1) (u8_bd w2) W thF thB thV thLo thG).mono fun e W' ⟨he, nq, hw⟩ => ?_
  subst he
  subst hw
  exact ⟨_, rfl, ChangeSpec.post_alike (post_of_same (pa := []) (pv := []) hW' (fun _ _ _ => (trodAll_cons_mk (shut_bool Tryd.underlying4 _) trodAll_mk0)) (fun sp _ => (trodAll_cons_mk (shut_int Tryd.underlying5 w0) (trodAll_cons_mk (shut_int Tryd.underlying5 w1) (trodAll_cons_mk (shut_int Tryd.underlying5 w2) trodAll_mk0)))) (fun _ _ => rfl) rfl
    (World.keptBut_refl _ _) (fun _ => rfl) (ok_one (by kernel_rfl) rfl (okWide_bool_mk Tryd.underlying4 _))) ⟨rfl, rfl, rfl⟩⟩

theorem capBeside_said : Rows.CapBesideSaid :=
  OpenClaim.holds_of_wide 7 Tryd.f7 rfl rfl rfl rfl rfl rfl rfl ⟨rfl, rfl, rfl, rfl, rfl⟩ rfl rfl rfl rfl rfl (by kernel_rfl) Tryd.func7 (by kernel_rfl)
    (of_decide_eq_true (by kernel_rfl)) (by unfold Func.isWrapper; first | (rw [if_pos (by decide +kernel)]; kernel_rfl) | (rw [if_neg (by decide +kernel)]; exact ⟨rfl, rfl⟩))
    (fun os started H enc _ => capBeside_lifted os started H enc)

theorem capBeside_holds : Rows.CapBesideCardSaid :=
  Claim7.holds_tied_plain_at .later [] Rows.capBesideCard.laidKinds true Rows.capBesideCard.stood.harness false
    capBeside_said (fun _ h => by cases h) (by kernel_rfl) (fun _ h => by cases h) capBeside_row_tie rfl ⟨rfl, rfl⟩ (by kernel_rfl) rfl
    (fun f fn hf hfn => by
      obtain rfl : f = 7 := Option.some.inj ((show Tryd.prog.funcNamed "hackamore/hackamorelaw07.CapBeside" = some 7 by kernel_rfl).symm.trans hf) |>.symm
      obtain rfl : fn = Tryd.f7 := (Option.some.inj (Tryd.func7.symm.trans hfn)).symm
      exact ⟨by kernel_rfl, fun j t ht => by
        rw [Tryd.params7] at ht
        have hm : t ∈ [5] := by
          have := Array.mem_of_getElem? ht
          simpa using this
        have hall : ([5].all fun u => !Tryd.prog.wantsStandIn u) = true := by kernel_rfl
        exact (show Tryd.prog.wantsStandIn t = false by simpa using List.all_eq_true.1 hall t hm)⟩)
    (by kernel_rfl)
#print axioms capBeside_holds
end Go.Proofs.YtpggdojclhdkjaaDoor
