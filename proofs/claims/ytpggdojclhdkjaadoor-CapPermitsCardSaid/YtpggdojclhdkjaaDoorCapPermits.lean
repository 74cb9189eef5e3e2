/- CapPermits (P7.3): for all two numbers the law returns true: a View permits no more than the field, Extract neither. No condition but the tables of the program's own text. -/
import Derived.Test.YtpggdojclhdkjaaDoorCapC
import Derived.Test.YtpggdojclhdkjaaDoorCards
namespace Go.Proofs.YtpggdojclhdkjaaDoor
open Go.ChangeShapes Go.WideShapes Go.ChangeAt Go.RowKit

theorem permits_run : (caps.all fun x => caps.all fun y => ((viewI x y != 0) == reads x) && (exB x y == writes x) && (!reads x || ((!reads (viewI x y) || reads y) && (!writes (viewI x y) || (writes x && writes y)) && (!(x == 3) || (viewI x y == y))))
    && (reads x || !writes x) && (!writes x || ((!reads (exI x y) || reads y) && (!writes (exI x y) || writes y)))) = true := by kernel_rfl
set_option synthInstance.maxSize 100000 in
set_option synthInstance.maxHeartbeats 400000 in
set_option maxRecDepth 100000 in
theorem permits_of {x y : Int} (hx : 1 ≤ x ∧ x ≤ 6) (hy : 1 ≤ y ∧ y ≤ 6) : (reads x = false ∧ (viewI x y != 0) = false ∧ writes x = false ∧ exB x y = false) ∨
    (reads x = true ∧ (viewI x y != 0) = true ∧ (reads (viewI x y) = false ∨ (reads (viewI x y) = true ∧ reads y = true)) ∧
      ((writes x = false ∧ writes (viewI x y) = false ∧ exB x y = false) ∨ (writes x = true ∧ exB x y = true ∧ (writes (viewI x y) = false ∨ (writes (viewI x y) = true ∧ writes y = true)) ∧
        (reads (exI x y) = false ∨ (reads (exI x y) = true ∧ reads y = true)) ∧ (writes (exI x y) = false ∨ (writes (exI x y) = true ∧ writes y = true)))) ∧
      ((x == 3) = false ∨ ((x == 3) = true ∧ (viewI x y != y) = false))) := by
  have h := all_caps (all_caps permits_run hx) hy
  revert h
  have e : (viewI x y != y) = !(viewI x y == y) := rfl
  rw [e]
  generalize (viewI x y != 0) = b1
  generalize (viewI x y == y) = b2
  generalize (x == 3) = b3
  generalize reads (viewI x y) = b4
  generalize writes (viewI x y) = b5
  generalize reads (exI x y) = b6
  generalize writes (exI x y) = b7
  generalize exB x y = b8
  generalize reads x = b9
  generalize writes x = b10
  generalize reads y = b11
  generalize writes y = b12
  revert b1 b2 b3 b4 b5 b6 b7 b8 b9 b10 b11 b12
  decide +kernel

set_option maxHeartbeats 16000000 in
theorem capPermits_walk (a b : Int) (ha : 0 ≤ a ∧ a ≤ 255) (hb : 0 ≤ b ∧ b ≤ 255) (w : World) (hF : TFit w) (hB : TBit w) (hV : TView w) :
    Calls Tryd.prog 6 #[.int .u8 a, .int .u8 b] w fun e w' => e = .returned (.bool true) ∧ ∃ n, w' = w.drewN n := by
  have hx : 1 ≤ 1 + a % 6 ∧ 1 + a % 6 ≤ 6 := by omega
  have hy : 1 ≤ 1 + b % 6 ∧ 1 + b % 6 ≤ 6 := by omega
  have pm := permits_of hx hy
  clear hx hy
  rcases pm with ⟨e1, e2, e3, e4⟩ | ⟨e1, e2, d1, d2, d3⟩
  · (
        go_enter Tryd.func6, Tryd.ntmps6
        go_wp2_with (first
          | (go_at_call 45; refine (one_any _ _ (by assumption)).mono ?_; rintro e w' ⟨rfl, rfl⟩)
          | (go_at_call 18; refine (reads_any _ _).mono ?_; rintro e w' ⟨rfl, rfl⟩)
          | (go_at_call 20; refine (writes_any _ _).mono ?_; rintro e w' ⟨rfl, rfl⟩)
          | (go_at_call 35; refine (view_any _ _ _ (by repeat (first | exact hV | refine Tab.drew ?_))).mono ?_; rintro e w' ⟨rfl, rfl⟩)
          | (go_at_call 37; refine (extract_any _ _ _ (by repeat (first | exact hV | refine Tab.drew ?_))).mono ?_; rintro e w' ⟨rfl, rfl⟩)
          | (go_at_call 34; refine (awake_any _ (by repeat (first | exact hF | refine Tab.drew ?_)) (by repeat (first | exact hB | refine Tab.drew ?_)) (by repeat (first | exact hV | refine Tab.drew ?_))).mono ?_; rintro e w' ⟨rfl, nq, rfl⟩))
        go_ret
        exact ⟨rfl, (by repeat (first | exact Dr.refl _ | refine Dr.drew ?_) : Dr _ _)⟩)
  · rcases d2 with ⟨e3, e4, e5⟩ | ⟨e3, e4, d4, d5, d6⟩
    · rcases d1 with e6 | ⟨e6, e7⟩ <;> rcases d3 with e8 | ⟨e8, e9⟩
      all_goals (
        go_enter Tryd.func6, Tryd.ntmps6
        go_wp2_with (first
          | (go_at_call 45; refine (one_any _ _ (by assumption)).mono ?_; rintro e w' ⟨rfl, rfl⟩)
          | (go_at_call 18; refine (reads_any _ _).mono ?_; rintro e w' ⟨rfl, rfl⟩)
          | (go_at_call 20; refine (writes_any _ _).mono ?_; rintro e w' ⟨rfl, rfl⟩)
          | (go_at_call 35; refine (view_any _ _ _ (by repeat (first | exact hV | refine Tab.drew ?_))).mono ?_; rintro e w' ⟨rfl, rfl⟩)
          | (go_at_call 37; refine (extract_any _ _ _ (by repeat (first | exact hV | refine Tab.drew ?_))).mono ?_; rintro e w' ⟨rfl, rfl⟩)
          | (go_at_call 34; refine (awake_any _ (by repeat (first | exact hF | refine Tab.drew ?_)) (by repeat (first | exact hB | refine Tab.drew ?_)) (by repeat (first | exact hV | refine Tab.drew ?_))).mono ?_; rintro e w' ⟨rfl, nq, rfl⟩))
        go_ret
        exact ⟨rfl, (by repeat (first | exact Dr.refl _ | refine Dr.drew ?_) : Dr _ _)⟩)
    · rcases d1 with e6 | ⟨e6, e7⟩ <;> rcases d3 with e8 | ⟨e8, e9⟩ <;> rcases d4 with e10 | ⟨e10, e11⟩ <;> rcases d5 with e12 | ⟨e12, e13⟩ <;> rcases d6 with e14 | ⟨e14, e15⟩
      all_goals (
        go_enter Tryd.func6, Tryd.ntmps6
        go_wp2_with (first
          | (go_at_call 45; refine (one_any _ _ (by assumption)).mono ?_; rintro e w' ⟨rfl, rfl⟩)
          | (go_at_call 18; refine (reads_any _ _).mono ?_; rintro e w' ⟨rfl, rfl⟩)
          | (go_at_call 20; refine (writes_any _ _).mono ?_; rintro e w' ⟨rfl, rfl⟩)
          | (go_at_call 35; refine (view_any _ _ _ (by repeat (first | exact hV | refine Tab.drew ?_))).mono ?_; rintro e w' ⟨rfl, rfl⟩)
          | (go_at_call 37; refine (extract_any _ _ _ (by repeat (first | exact hV | refine Tab.drew ?_))).mono ?_; rintro e w' ⟨rfl, rfl⟩)
          | (go_at_call 34; refine (awake_any _ (by repeat (first | exact hF | refine Tab.drew ?_)) (by repeat (first | exact hB | refine Tab.drew ?_)) (by repeat (first | exact hV | refine Tab.drew ?_))).mono ?_; rintro e w' ⟨rfl, nq, rfl⟩))
        go_ret
        exact ⟨rfl, (by repeat (first | exact Dr.refl _ | refine Dr.drew ?_) : Dr _ _)⟩)

theorem capPermits_laid {W : World} (h : laidMetH Tryd.prog Rows.capPermitsRow.laid W) : TFit W ∧ TBit W ∧ TView W := by
  rw [MakeChecks.laidMetH_plain _ _ _ (by kernel_rfl)] at h
  exact ⟨tfit_of h (List.mem_of_getElem? (i := 2) rfl), tbit_of h (List.mem_of_getElem? (i := 1) rfl), tview_of h (List.mem_of_getElem? (i := 0) rfl)⟩

set_option maxRecDepth 100000 in
theorem capPermits_lifted (os : Os) (started : os.Started) (H : Type) (enc : TypeId × Value → H) :
    ReturnsInHanded {} Tryd.checked os 6 .any (fun w args => (Rows.capPermitsSpec.pre enc Tryd.prog Tryd.f6 Rows.capPermitsRow.domain false w args ∧ laidMetH Tryd.prog Rows.capPermitsRow.laid w) ∧ sizedMet enc Tryd.prog Tryd.f6 (OpenSpec.ofChange Rows.capPermitsSpec) false w args)
      (Rows.capPermitsSpec.post enc Tryd.prog Tryd.f6 false true false false) := by
  refine returnsInHanded_of_change_and (C := Tryd.checked) (X := fun w _ => laidMetH Tryd.prog Rows.capPermitsRow.laid w) (fun _ _ _ hh h => h.of_heap hh) own started (by kernel_rfl) Tryd.func6
    (ChangeSpec.witness_shaped (enc := enc) (C := Tryd.checked) (os := os) (X := fun w _ => laidMetH Tryd.prog Rows.capPermitsRow.laid w) false (World.laidAll Tryd.prog os Rows.capPermitsRow.laid) #[.int .u8 0, .int .u8 0] 8 (World.laidAll_os _ _ _)
      (World.shaped_of_ZipB (by kernel_rfl) (by kernel_rfl)) (by kernel_rfl) (by kernel_rfl) (by kernel_rfl)
      (by rw [MakeChecks.laidMetH_plain _ _ _ (by kernel_rfl)]; exact laidMet_laidAll _ (by kernel_rfl) (by kernel_rfl))) ?_
  intro W base args ds gs before hval0 hW _ _ hL _
  have hval : ∀ (j : Nat) t v, Tryd.f6.params[j]? = some t → args[j]? = some v → Value.okWide Tryd.prog W .any base t v := hval0
  have hW' := hW
  obtain ⟨p, q, hA0, hV, rfl, _, _⟩ := hW
  have hA : DataW.TrodAll enc Tryd.prog W 0 (fun _ => true) true Tryd.f6.params.toList args.toList ds p := hA0
  rw [Tryd.params6] at hA hval
  obtain ⟨v0, vs0, d0, ds0, p0, q0, hargs, rfl, rfl, h0, r0⟩ := trodAll_cons hA
  obtain ⟨v1, vs1, d1, ds1, p1, q1, rfl, rfl, rfl, h1, r1⟩ := trodAll_cons r0
  obtain ⟨rfl, rfl, rfl⟩ := trodAll_nil r1
  obtain rfl : args = #[v0, v1] := by cases args; simp_all
  obtain ⟨rfl, rfl⟩ := trodVars_none hV
  obtain ⟨a0, rfl, rfl, rfl, w0⟩ := open_int Tryd.underlying5 (hval 0 5 v0 rfl rfl) h0
  obtain ⟨a1, rfl, rfl, rfl, w1⟩ := open_int Tryd.underlying5 (hval 1 5 v1 rfl rfl) h1
  obtain ⟨thF, thB, thV⟩ := capPermits_laid hL
  clear hA0 hval0
  simp only [List.append_nil] at hW'
  refine (capPermits_walk a0 a1 (u8_bd w0) (u8_bd w1) W thF thB thV).mono fun e W' ⟨he, nq, hw⟩ => ?_
  subst he
  subst hw
  exact ⟨_, rfl, ChangeSpec.post_alike (post_of_same (pa := []) (pv := []) hW' (fun _ _ _ => (trodAll_cons_mk (shut_bool Tryd.underlying4 _) trodAll_mk0)) (fun sp _ => (trodAll_cons_mk (shut_int Tryd.underlying5 w0) (trodAll_cons_mk (shut_int Tryd.underlying5 w1) trodAll_mk0))) (fun _ _ => rfl) rfl
    (World.keptBut_refl _ _) (fun _ => rfl) (ok_one (by kernel_rfl) rfl (okWide_bool_mk Tryd.underlying4 _))) ⟨rfl, rfl, rfl⟩⟩

theorem capPermits_said : Rows.CapPermitsSaid :=
  OpenClaim.holds_of_wide 6 Tryd.f6 rfl rfl rfl rfl rfl rfl rfl ⟨rfl, rfl, rfl, rfl, rfl⟩ rfl rfl rfl rfl rfl (by kernel_rfl) Tryd.func6 (by kernel_rfl)
    (of_decide_eq_true (by kernel_rfl)) (by unfold Func.isWrapper; first | (rw [if_pos (by decide +kernel)]; kernel_rfl) | (rw [if_neg (by decide +kernel)]; exact ⟨rfl, rfl⟩))
    (fun os started H enc _ => capPermits_lifted os started H enc)

theorem capPermits_holds : Rows.CapPermitsCardSaid :=
  Claim7.holds_tied_plain_at .later [] Rows.capPermitsCard.laidKinds true Rows.capPermitsCard.stood.harness false
    capPermits_said (fun _ h => by cases h) (by kernel_rfl) (fun _ h => by cases h) capPermits_row_tie rfl ⟨rfl, rfl⟩ (by kernel_rfl) rfl
    (fun f fn hf hfn => by
      obtain rfl : f = 6 := Option.some.inj ((show Tryd.prog.funcNamed "hackamore/hackamorelaw07.CapPermits" = some 6 by kernel_rfl).symm.trans hf) |>.symm
      obtain rfl : fn = Tryd.f6 := (Option.some.inj (Tryd.func6.symm.trans hfn)).symm
      exact ⟨by kernel_rfl, fun j t ht => by
        rw [Tryd.params6] at ht
        have hm : t ∈ [5] := by
          have := Array.mem_of_getElem? ht
          simpa using this
        have hall : ([5].all fun u => !Tryd.prog.wantsStandIn u) = true := by kernel_rfl
        exact (show Tryd.prog.wantsStandIn t = false by simpa using List.all_eq_true.1 hall t hm)⟩)
    (by kernel_rfl)
#print axioms capPermits_holds
end Go.Proofs.YtpggdojclhdkjaaDoor
