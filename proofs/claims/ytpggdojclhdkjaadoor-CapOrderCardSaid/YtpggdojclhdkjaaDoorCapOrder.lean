/- CapOrder (P7.2): for all six numbers the law returns true: Fits is reflexive and transitive, what fits permits no more, and iso that was given up fits everything. No condition but the tables of the program's own text. -/
import Derived.Test.YtpggdojclhdkjaaDoorCapC
import Derived.Test.YtpggdojclhdkjaaDoorCards
namespace Go.Proofs.YtpggdojclhdkjaaDoor
open Go.ChangeShapes Go.WideShapes Go.ChangeAt Go.RowKit

set_option maxHeartbeats 8000000 in
theorem capOrder_walk (a b c l m n : Int) (ha : 0 ≤ a ∧ a ≤ 255) (hb : 0 ≤ b ∧ b ≤ 255) (hc : 0 ≤ c ∧ c ≤ 255) (hl : 0 ≤ l ∧ l ≤ 255) (hm : 0 ≤ m ∧ m ≤ 255) (hn : 0 ≤ n ∧ n ≤ 255)
    (w : World) (hF : TFit w) (hB : TBit w) (hV : TView w) :
    Calls Tryd.prog 5 #[.int .u8 a, .int .u8 b, .int .u8 c, .int .u8 l, .int .u8 m, .int .u8 n] w fun e w' => e = .returned (.bool true) ∧ ∃ n, w' = w.drewN n := by
  have hx : 1 ≤ 1 + a % 6 ∧ 1 + a % 6 ≤ 6 := by omega
  have hy : 1 ≤ 1 + b % 6 ∧ 1 + b % 6 ≤ 6 := by omega
  have hz : 1 ≤ 1 + c % 6 ∧ 1 + c % 6 ≤ 6 := by omega
  have hi : 0 ≤ l % 3 ∧ l % 3 ≤ 2 := by omega
  have hj : 0 ≤ m % 3 ∧ m % 3 ≤ 2 := by omega
  have hk : 0 ≤ n % 3 ∧ n % 3 ≤ 2 := by omega
  obtain ⟨f1, f2⟩ := fits_refl hx hi
  have tr := fits_trans hx hi hy hj hz hk
  have pm := fits_perm hx hi hy hj
  have key : Calls Tryd.prog 5 #[.int .u8 a, .int .u8 b, .int .u8 c, .int .u8 l, .int .u8 m, .int .u8 n] w fun e w' => e = .returned (.bool true) ∧ ∃ n, w' = w.drewN n := by
    clear hx hy hz hi hj hk
    cases h1 : fits (1 + a % 6) (l % 3) (1 + b % 6) (m % 3)
    · clear tr pm
      go_enter Tryd.func5, Tryd.ntmps5
      go_wp2_with (first
        | (go_at_call 45; refine (one_any _ _ (by assumption)).mono ?_; rintro e w' ⟨rfl, rfl⟩)
        | (go_at_call 46; refine (mark_any _ _ (by assumption)).mono ?_; rintro e w' ⟨rfl, rfl⟩)
        | (go_at_call 18; refine (reads_any _ _).mono ?_; rintro e w' ⟨rfl, rfl⟩)
        | (go_at_call 20; refine (writes_any _ _).mono ?_; rintro e w' ⟨rfl, rfl⟩)
        | (go_at_call 24; refine (sub_any _ _ _ (by repeat (first | exact hF | refine Tab.drew ?_)) (by repeat (first | exact hB | refine Tab.drew ?_))).mono ?_; rintro e w' ⟨rfl, nq, rfl⟩)
        | (go_at_call 26; refine (fits_any _ _ _ _ _ (by repeat (first | exact hF | refine Tab.drew ?_)) (by repeat (first | exact hB | refine Tab.drew ?_))).mono ?_; rintro e w' ⟨rfl, nq, rfl⟩)
        | (go_at_call 34; refine (awake_any _ (by repeat (first | exact hF | refine Tab.drew ?_)) (by repeat (first | exact hB | refine Tab.drew ?_)) (by repeat (first | exact hV | refine Tab.drew ?_))).mono ?_; rintro e w' ⟨rfl, nq, rfl⟩))
      go_ret
      exact ⟨rfl, (by repeat (first | exact Dr.refl _ | refine Dr.drew ?_) : Dr _ _)⟩
    · have pm' := pm h1
      obtain ⟨pr, pw⟩ := pm'
      have h3 : fits (1 + b % 6) (m % 3) (1 + c % 6) (n % 3) = true → fits (1 + a % 6) (l % 3) (1 + c % 6) (n % 3) = true := tr h1
      clear tr pm
      have rd : ∃ p q : Bool, reads (1 + b % 6) = p ∧ reads (1 + a % 6) = q ∧ (p = true → q = true) := ⟨_, _, rfl, rfl, pr⟩
      have wr : ∃ p q : Bool, writes (1 + b % 6) = p ∧ writes (1 + a % 6) = q ∧ (p = true → q = true) := ⟨_, _, rfl, rfl, pw⟩
      have ft : ∃ p q : Bool, fits (1 + b % 6) (m % 3) (1 + c % 6) (n % 3) = p ∧ fits (1 + a % 6) (l % 3) (1 + c % 6) (n % 3) = q ∧ (p = true → q = true) := ⟨_, _, rfl, rfl, h3⟩
      clear pr pw h3
      obtain ⟨r1, r2, er1, er2, er⟩ := rd
      obtain ⟨w1, w2, ew1, ew2, ew⟩ := wr
      obtain ⟨t1, t2, et1, et2, et⟩ := ft
      cases r1 <;> cases r2 <;> cases w1 <;> cases w2 <;> cases t1 <;> cases t2
      all_goals first
        | (exact absurd (er rfl) (by decide))
        | (exact absurd (ew rfl) (by decide))
        | (exact absurd (et rfl) (by decide))
        | (clear er ew et
           go_enter Tryd.func5, Tryd.ntmps5
           go_wp2_with (first
             | (go_at_call 45; refine (one_any _ _ (by assumption)).mono ?_; rintro e w' ⟨rfl, rfl⟩)
             | (go_at_call 46; refine (mark_any _ _ (by assumption)).mono ?_; rintro e w' ⟨rfl, rfl⟩)
             | (go_at_call 18; refine (reads_any _ _).mono ?_; rintro e w' ⟨rfl, rfl⟩)
             | (go_at_call 20; refine (writes_any _ _).mono ?_; rintro e w' ⟨rfl, rfl⟩)
             | (go_at_call 24; refine (sub_any _ _ _ (by repeat (first | exact hF | refine Tab.drew ?_)) (by repeat (first | exact hB | refine Tab.drew ?_))).mono ?_; rintro e w' ⟨rfl, nq, rfl⟩)
             | (go_at_call 26; refine (fits_any _ _ _ _ _ (by repeat (first | exact hF | refine Tab.drew ?_)) (by repeat (first | exact hB | refine Tab.drew ?_))).mono ?_; rintro e w' ⟨rfl, nq, rfl⟩)
             | (go_at_call 34; refine (awake_any _ (by repeat (first | exact hF | refine Tab.drew ?_)) (by repeat (first | exact hB | refine Tab.drew ?_)) (by repeat (first | exact hV | refine Tab.drew ?_))).mono ?_; rintro e w' ⟨rfl, nq, rfl⟩))
           go_ret
           exact ⟨rfl, (by repeat (first | exact Dr.refl _ | refine Dr.drew ?_) : Dr _ _)⟩)
  exact key

theorem capOrder_laid {W : World} (h : laidMetH Tryd.prog Rows.capOrderRow.laid W) : TFit W ∧ TBit W ∧ TView W := by
  rw [MakeChecks.laidMetH_plain _ _ _ (by kernel_rfl)] at h
  exact ⟨tfit_of h (List.mem_of_getElem? (i := 2) rfl), tbit_of h (List.mem_of_getElem? (i := 1) rfl), tview_of h (List.mem_of_getElem? (i := 0) rfl)⟩

set_option maxRecDepth 100000 in
theorem capOrder_lifted (os : Os) (started : os.Started) (H : Type) (enc : TypeId × Value → H) :
    ReturnsInHanded {} Tryd.checked os 5 .any (fun w args => (Rows.capOrderSpec.pre enc Tryd.prog Tryd.f5 Rows.capOrderRow.domain false w args ∧ laidMetH Tryd.prog Rows.capOrderRow.laid w) ∧ sizedMet enc Tryd.prog Tryd.f5 (OpenSpec.ofChange Rows.capOrderSpec) false w args)
      (Rows.capOrderSpec.post enc Tryd.prog Tryd.f5 false true false false) := by
  refine returnsInHanded_of_change_and (C := Tryd.checked) (X := fun w _ => laidMetH Tryd.prog Rows.capOrderRow.laid w) (fun _ _ _ hh h => h.of_heap hh) own started (by kernel_rfl) Tryd.func5
    (ChangeSpec.witness_shaped (enc := enc) (C := Tryd.checked) (os := os) (X := fun w _ => laidMetH Tryd.prog Rows.capOrderRow.laid w) false (World.laidAll Tryd.prog os Rows.capOrderRow.laid) #[.int .u8 0, .int .u8 0, .int .u8 0, .int .u8 0, .int .u8 0, .int .u8 0] 8 (World.laidAll_os _ _ _)
      (World.shaped_of_ZipB (by kernel_rfl) (by kernel_rfl)) (by kernel_rfl) (by kernel_rfl) (by kernel_rfl)
      (by rw [MakeChecks.laidMetH_plain _ _ _ (by kernel_rfl)]; exact laidMet_laidAll _ (by kernel_rfl) (by kernel_rfl))) ?_
  intro W base args ds gs before hval0 hW _ _ hL _
  have hval : ∀ (j : Nat) t v, Tryd.f5.params[j]? = some t → args[j]? = some v → Value.okWide Tryd.prog W .any base t v := hval0
  have hW' := hW
  obtain ⟨p, q, hA0, hV, rfl, _, _⟩ := hW
  have hA : DataW.TrodAll enc Tryd.prog W 0 (fun _ => true) true Tryd.f5.params.toList args.toList ds p := hA0
  rw [Tryd.params5] at hA hval
  obtain ⟨v0, vs0, d0, ds0, p0, q0, hargs, rfl, rfl, h0, r0⟩ := trodAll_cons hA
  obtain ⟨v1, vs1, d1, ds1, p1, q1, rfl, rfl, rfl, h1, r1⟩ := trodAll_cons r0
  obtain ⟨v2, vs2, d2, ds2, p2, q2, rfl, rfl, rfl, h2, r2⟩ := trodAll_cons r1
  obtain ⟨v3, vs3, d3, ds3, p3, q3, rfl, rfl, rfl, h3, r3⟩ := trodAll_cons r2
  obtain ⟨v4, vs4, d4, ds4, p4, q4, rfl, rfl, rfl, h4, r4⟩ := trodAll_cons r3
  obtain ⟨v5, vs5, d5, ds5, p5, q5, rfl, rfl, rfl, h5, r5⟩ := trodAll_cons r4
  obtain ⟨rfl, rfl, rfl⟩ := trodAll_nil r5
  obtain rfl : args = #[v0, v1, v2, v3, v4, v5] := by cases args; simp_all
  obtain ⟨rfl, rfl⟩ := trodVars_none hV
  obtain ⟨a0, rfl, rfl, rfl, w0⟩ := open_int Tryd.underlying5 (hval 0 5 v0 rfl rfl) h0
  obtain ⟨a1, rfl, rfl, rfl, w1⟩ := open_int Tryd.underlying5 (hval 1 5 v1 rfl rfl) h1
  obtain ⟨a2, rfl, rfl, rfl, w2⟩ := open_int Tryd.underlying5 (hval 2 5 v2 rfl rfl) h2
  obtain ⟨a3, rfl, rfl, rfl, w3⟩ := open_int Tryd.underlying5 (hval 3 5 v3 rfl rfl) h3
  obtain ⟨a4, rfl, rfl, rfl, w4⟩ := open_int Tryd.underlying5 (hval 4 5 v4 rfl rfl) h4
  obtain ⟨a5, rfl, rfl, rfl, w5⟩ := open_int Tryd.underlying5 (hval 5 5 v5 rfl rfl) h5
  obtain ⟨hF, hB, hVw⟩ := capOrder_laid hL
  clear hA0 hval0
  simp only [List.append_nil] at hW'
  refine (capOrder_walk a0 a1 a2 a3 a4 a5 (u8_bd w0) (u8_bd w1) (u8_bd w2) (u8_bd w3) (u8_bd w4) (u8_bd w5) W hF hB hVw).mono fun e W' ⟨he, nq, hw⟩ => ?_
  subst he
  subst hw
  exact ⟨_, rfl, ChangeSpec.post_alike (post_of_same (pa := []) (pv := []) hW' (fun _ _ _ => (trodAll_cons_mk (shut_bool Tryd.underlying4 _) trodAll_mk0)) (fun sp _ => (trodAll_cons_mk (shut_int Tryd.underlying5 w0) (trodAll_cons_mk (shut_int Tryd.underlying5 w1) (trodAll_cons_mk (shut_int Tryd.underlying5 w2) (trodAll_cons_mk (shut_int Tryd.underlying5 w3) (trodAll_cons_mk (shut_int Tryd.underlying5 w4) (trodAll_cons_mk (shut_int Tryd.underlying5 w5) trodAll_mk0))))))) (fun _ _ => rfl) rfl
    (World.keptBut_refl _ _) (fun _ => rfl) (ok_one (by kernel_rfl) rfl (okWide_bool_mk Tryd.underlying4 _))) ⟨rfl, rfl, rfl⟩⟩

theorem capOrder_said : Rows.CapOrderSaid :=
  OpenClaim.holds_of_wide 5 Tryd.f5 rfl rfl rfl rfl rfl rfl rfl ⟨rfl, rfl, rfl, rfl, rfl⟩ rfl rfl rfl rfl rfl (by kernel_rfl) Tryd.func5 (by kernel_rfl)
    (of_decide_eq_true (by kernel_rfl)) (by unfold Func.isWrapper; first | (rw [if_pos (by decide +kernel)]; kernel_rfl) | (rw [if_neg (by decide +kernel)]; exact ⟨rfl, rfl⟩))
    (fun os started H enc _ => capOrder_lifted os started H enc)

theorem capOrder_holds : Rows.CapOrderCardSaid :=
  Claim7.holds_tied_plain_at .later [] Rows.capOrderCard.laidKinds true Rows.capOrderCard.stood.harness false
    capOrder_said (fun _ h => by cases h) (by kernel_rfl) (fun _ h => by cases h) capOrder_row_tie rfl ⟨rfl, rfl⟩ (by kernel_rfl) rfl
    (fun f fn hf hfn => by
      obtain rfl : f = 5 := Option.some.inj ((show Tryd.prog.funcNamed "hackamore/hackamorelaw07.CapOrder" = some 5 by kernel_rfl).symm.trans hf) |>.symm
      obtain rfl : fn = Tryd.f5 := (Option.some.inj (Tryd.func5.symm.trans hfn)).symm
      exact ⟨by kernel_rfl, fun j t ht => by
        rw [Tryd.params5] at ht
        have hm : t ∈ [5] := by
          have := Array.mem_of_getElem? ht
          simpa using this
        have hall : ([5].all fun u => !Tryd.prog.wantsStandIn u) = true := by kernel_rfl
        exact (show Tryd.prog.wantsStandIn t = false by simpa using List.all_eq_true.1 hall t hm)⟩)
    (by kernel_rfl)
#print axioms capOrder_holds
end Go.Proofs.YtpggdojclhdkjaaDoor
