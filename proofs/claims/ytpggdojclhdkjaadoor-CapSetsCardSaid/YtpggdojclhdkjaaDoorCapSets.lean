/- CapSets (P7.5): for every number the law returns true: the members of a set are those of its definition, each once and ascending, and Parse of Name is the number. No condition but the tables of the program's own text. -/
import Derived.Test.YtpggdojclhdkjaaDoorCapH
namespace Go.Proofs.YtpggdojclhdkjaaDoor
open Go.RowKit

def setsC : List Int := [1, 2, 3, 4, 5, 6, 7, 8, 9, 10, 11]
theorem mem_sets {c : Int} (h : 1 ≤ c ∧ c ≤ 11) : c ∈ setsC := by
  have : c = 1 ∨ c = 2 ∨ c = 3 ∨ c = 4 ∨ c = 5 ∨ c = 6 ∨ c = 7 ∨ c = 8 ∨ c = 9 ∨ c = 10 ∨ c = 11 := by omega
  simp [setsC]; omega
theorem sets_run : (setsC.all fun c => decide (0 < (mems c).length) && (Lib.compact (mems c) == mems c) && ((List.range 6).all fun i => !decide (i + 1 < (mems c).length) || decide ((mems c).getD i 0 ≤ (mems c).getD (i + 1) 0))
    && decide (parseI (nameI c) = c) && !(nameI c).toList.isEmpty) = true := by decide +kernel
theorem sets_of {c : Int} (h : 1 ≤ c ∧ c ≤ 11) : 0 < (mems c).length ∧ Lib.compact (mems c) = mems c ∧ (∀ i, i + 1 < (mems c).length → (mems c).getD i 0 ≤ (mems c).getD (i + 1) 0) ∧ parseI (nameI c) = c ∧ parseE (nameI c) = 0 ∧ (nameI c).toList.isEmpty = false := by
  have r := List.all_eq_true.1 sets_run c (mem_sets h)
  simp only [Bool.and_eq_true, decide_eq_true_eq, beq_iff_eq, Bool.not_eq_true'] at r
  obtain ⟨⟨⟨⟨r1, r2⟩, r3⟩, r4⟩, r5⟩ := r
  refine ⟨r1, r2, fun i hi => ?_, r4, by rw [parseE, r4, if_neg (by omega)], r5⟩
  have hl := memK_le (memL.getD c.toNat 0) 6
  have hi6 : i < 6 := by
    have : (mems c).length ≤ 6 := hl
    omega
  have := List.all_eq_true.1 r3 i (List.mem_range.2 hi6)
  simp only [Bool.or_eq_true, Bool.not_eq_true', decide_eq_false_iff_not, decide_eq_true_eq] at this
  rcases this with h | h
  · exact absurd hi h
  · exact h

def inB (c x : Int) : Bool := (mems c).contains x

set_option maxHeartbeats 16000000 in
theorem capSets_walk (a : Int) (ha : 0 ≤ a ∧ a ≤ 255) (w : World) (hF : TFit w) (hB : TBit w) (hV : TView w) (hG : TGlob w) (hM : TMem w) (hN : TName w) :
    Calls Tryd.prog 8 #[.int .u8 a] w fun e w' => e = .returned (.bool true) ∧ Below w.heap.size w w' := by
  obtain ⟨a1, a2⟩ := ha
  obtain ⟨c, hcx⟩ : ∃ c, 1 + a % 11 = c := ⟨_, rfl⟩
  have hc : 1 ≤ c ∧ c ≤ 11 := by omega
  obtain ⟨m1, m2, m3, p1, p2, p3⟩ := sets_of hc
  have M2 := Lib.hid m2
  have M3 := Lib.hid m3
  clear m2 m3
  obtain ⟨c1, c2⟩ := hc
  have hle : (mems c).length ≤ 6 := memK_le _ _
  have g0 := hM.lt (by decide)
  go_enter Tryd.func8, Tryd.ntmps8
  go_wp2_with (first
    | (go_at_call 11; refine (name_any _ _ hN).mono ?_; rintro e w' ⟨rfl, rfl⟩)
    | (go_at_call 9; refine (parse_any _ _ hN).mono ?_; rintro e w' ⟨rfl, rfl⟩))
  refine (members_in c w (by omega) (by omega) hM).mono ?_
  rintro e w1 ⟨v, rfl, hown, hb1⟩
  obtain ⟨_, g, cap, rfl, hg, hcap, hcell, _⟩ := own_row hown m1
  clear hown
  have hz1 := hb1.size
  obtain ⟨nn, hnn⟩ : ∃ nn, (mems c).length = nn := ⟨_, rfl⟩
  have HN := Lib.hid hnn
  have HC := Lib.hid hcell
  rw [hnn] at hle m1 hcap
  rw [hnn]
  clear hcell hnn
  go_wp2_with fail
  refine (isSorted_true g 0 nn cap (mems c) w1 m1 (by omega) (by rw [HN.out]; exact Nat.le_refl _) HC.out (by rw [← HN.out]; exact M3.out)).mono ?_
  rintro e w' ⟨rfl, q, rfl⟩
  go_wp2_with fail
  refine (clone_c g nn cap (mems c) (w1.drewN q) (by rw [HN.out]; exact m1) HN.out.symm (by rw [HN.out]; omega) HC.out).mono ?_
  rintro e w2 ⟨g2, cap2, rfl, hg2, hcap2, hcell2, hfr2, hb2⟩
  rw [HN.out]
  have H2 := Lib.hid hcell2
  have H3 := Lib.hid hfr2
  clear hcell2 hfr2
  go_wp2_with fail
  refine (compact_c g2 nn cap2 (mems c) w2 HN.out.symm (by rw [HN.out]; omega) hcap2 M2.out H2.out H3.out).mono ?_
  rintro e w3 ⟨rfl, hb3⟩
  rw [HN.out]
  go_wp2_with fail
  have b13 : Below w1.heap.size (w1.drewN q) w3 := Below.trans hb2 (hb3 _ hg2)
  have b03 : Below w.heap.size w w3 := (below_drewN hb1).trans (b13.mono hz1)
  have hin : ∀ x, Calls Tryd.prog 50 #[.slice (some ⟨g, 0, none⟩) nn cap, .int .i64 x] w3 fun e w' => e = .returned (.bool (inB c x)) ∧ w3 = w' := fun x =>
    contains_c g nn cap (mems c) x w3 HN.out.symm (by rw [HN.out]; omega) (fun j hj => (b13.cell (p := ⟨g, 0 + j, none⟩) (block_lt (HC.out j hj))).trans (HC.out j hj))
  have hF3 := hF.below b03 (hF.lt (by decide))
  have hB3 := hB.below b03 (hB.lt (by decide))
  have hV3 := hV.below b03 (hV.lt (by decide))
  have hG3 := hG.below b03 (hG.lt (by decide))
  have B03 := Lib.hid b03
  have HIN := Lib.hid hin
  clear hb1 hb2 hb3 b13 b03 hin H2 H3 hF hB hV hG hM hN hz1 hg hg2 hcap hcap2 M2 M3 HC p1 p2 p3
  have r1 : reads 1 = true := by kernel_rfl
  have s1 : sendable 1 = true := by kernel_rfl
  have t1 : glob 1 1 = false := by kernel_rfl
  have r2 : reads 2 = true := by kernel_rfl
  have s2 : sendable 2 = false := by kernel_rfl
  have t2 : glob 2 2 = false := by kernel_rfl
  have r3 : reads 3 = true := by kernel_rfl
  have s3 : sendable 3 = false := by kernel_rfl
  have t3 : glob 3 3 = false := by kernel_rfl
  have r4 : reads 4 = true := by kernel_rfl
  have s4 : sendable 4 = true := by kernel_rfl
  have t4 : glob 4 4 = true := by kernel_rfl
  have r5 : reads 5 = true := by kernel_rfl
  have s5 : sendable 5 = false := by kernel_rfl
  have t5 : glob 5 5 = true := by kernel_rfl
  have r6 : reads 6 = false := by kernel_rfl
  have s6 : sendable 6 = true := by kernel_rfl
  have t6 : glob 6 6 = true := by kernel_rfl
  go_loop [8] (fun i => ∃ k : Nat, k ≤ 6 ∧ i = .int .i64 (k + 1)) (fun i => 7 - (intOf i).toNat)
  case atStart => exact ⟨0, by omega, rfl⟩
  case round =>
    obtain ⟨k, hk, rfl⟩ := hrel
    have hkk : k = 0 ∨ k = 1 ∨ k = 2 ∨ k = 3 ∨ k = 4 ∨ k = 5 ∨ k = 6 := by omega
    rcases hkk with rfl | rfl | rfl | rfl | rfl | rfl | rfl
    rotate_left 6
    · clear hcx c1 c2
      go_wp2_with (go_at_call 34; refine (awake_any _ hF3 hB3 hV3).mono ?_; rintro e w' ⟨rfl, nq, rfl⟩)
      go_ret
      exact ⟨rfl, below_drewN B03.out⟩
    · have hcc : c = 1 ∨ c = 2 ∨ c = 3 ∨ c = 4 ∨ c = 5 ∨ c = 6 ∨ c = 7 ∨ c = 8 ∨ c = 9 ∨ c = 10 ∨ c = 11 := by omega
      clear hcx c1 c2
      cases hb : inB c 1 <;> rcases hcc with rfl | rfl | rfl | rfl | rfl | rfl | rfl | rfl | rfl | rfl | rfl
      all_goals first
        | (exact absurd hb (by decide +kernel))
        | (go_wp2_with (first
             | (go_at_call 50; refine (HIN.out _).mono ?_; rintro e w' ⟨rfl, rfl⟩)
             | (go_at_call 18; refine (reads_any _ _).mono ?_; rintro e w' ⟨rfl, rfl⟩)
             | (go_at_call 22; refine (sendable_any _ _).mono ?_; rintro e w' ⟨rfl, rfl⟩)
             | (go_at_call 43; refine (global_any _ _ _ hG3).mono ?_; rintro e w' ⟨rfl, rfl⟩))
           exact ⟨⟨1, by omega, rfl⟩, by simp [intOf]⟩)
    · have hcc : c = 1 ∨ c = 2 ∨ c = 3 ∨ c = 4 ∨ c = 5 ∨ c = 6 ∨ c = 7 ∨ c = 8 ∨ c = 9 ∨ c = 10 ∨ c = 11 := by omega
      clear hcx c1 c2
      cases hb : inB c 2 <;> rcases hcc with rfl | rfl | rfl | rfl | rfl | rfl | rfl | rfl | rfl | rfl | rfl
      all_goals first
        | (exact absurd hb (by decide +kernel))
        | (go_wp2_with (first
             | (go_at_call 50; refine (HIN.out _).mono ?_; rintro e w' ⟨rfl, rfl⟩)
             | (go_at_call 18; refine (reads_any _ _).mono ?_; rintro e w' ⟨rfl, rfl⟩)
             | (go_at_call 22; refine (sendable_any _ _).mono ?_; rintro e w' ⟨rfl, rfl⟩)
             | (go_at_call 43; refine (global_any _ _ _ hG3).mono ?_; rintro e w' ⟨rfl, rfl⟩))
           exact ⟨⟨2, by omega, rfl⟩, by simp [intOf]⟩)
    · have hcc : c = 1 ∨ c = 2 ∨ c = 3 ∨ c = 4 ∨ c = 5 ∨ c = 6 ∨ c = 7 ∨ c = 8 ∨ c = 9 ∨ c = 10 ∨ c = 11 := by omega
      clear hcx c1 c2
      cases hb : inB c 3 <;> rcases hcc with rfl | rfl | rfl | rfl | rfl | rfl | rfl | rfl | rfl | rfl | rfl
      all_goals first
        | (exact absurd hb (by decide +kernel))
        | (go_wp2_with (first
             | (go_at_call 50; refine (HIN.out _).mono ?_; rintro e w' ⟨rfl, rfl⟩)
             | (go_at_call 18; refine (reads_any _ _).mono ?_; rintro e w' ⟨rfl, rfl⟩)
             | (go_at_call 22; refine (sendable_any _ _).mono ?_; rintro e w' ⟨rfl, rfl⟩)
             | (go_at_call 43; refine (global_any _ _ _ hG3).mono ?_; rintro e w' ⟨rfl, rfl⟩))
           exact ⟨⟨3, by omega, rfl⟩, by simp [intOf]⟩)
    · have hcc : c = 1 ∨ c = 2 ∨ c = 3 ∨ c = 4 ∨ c = 5 ∨ c = 6 ∨ c = 7 ∨ c = 8 ∨ c = 9 ∨ c = 10 ∨ c = 11 := by omega
      clear hcx c1 c2
      cases hb : inB c 4 <;> rcases hcc with rfl | rfl | rfl | rfl | rfl | rfl | rfl | rfl | rfl | rfl | rfl
      all_goals first
        | (exact absurd hb (by decide +kernel))
        | (go_wp2_with (first
             | (go_at_call 50; refine (HIN.out _).mono ?_; rintro e w' ⟨rfl, rfl⟩)
             | (go_at_call 18; refine (reads_any _ _).mono ?_; rintro e w' ⟨rfl, rfl⟩)
             | (go_at_call 22; refine (sendable_any _ _).mono ?_; rintro e w' ⟨rfl, rfl⟩)
             | (go_at_call 43; refine (global_any _ _ _ hG3).mono ?_; rintro e w' ⟨rfl, rfl⟩))
           exact ⟨⟨4, by omega, rfl⟩, by simp [intOf]⟩)
    · have hcc : c = 1 ∨ c = 2 ∨ c = 3 ∨ c = 4 ∨ c = 5 ∨ c = 6 ∨ c = 7 ∨ c = 8 ∨ c = 9 ∨ c = 10 ∨ c = 11 := by omega
      clear hcx c1 c2
      cases hb : inB c 5 <;> rcases hcc with rfl | rfl | rfl | rfl | rfl | rfl | rfl | rfl | rfl | rfl | rfl
      all_goals first
        | (exact absurd hb (by decide +kernel))
        | (go_wp2_with (first
             | (go_at_call 50; refine (HIN.out _).mono ?_; rintro e w' ⟨rfl, rfl⟩)
             | (go_at_call 18; refine (reads_any _ _).mono ?_; rintro e w' ⟨rfl, rfl⟩)
             | (go_at_call 22; refine (sendable_any _ _).mono ?_; rintro e w' ⟨rfl, rfl⟩)
             | (go_at_call 43; refine (global_any _ _ _ hG3).mono ?_; rintro e w' ⟨rfl, rfl⟩))
           exact ⟨⟨5, by omega, rfl⟩, by simp [intOf]⟩)
    · have hcc : c = 1 ∨ c = 2 ∨ c = 3 ∨ c = 4 ∨ c = 5 ∨ c = 6 ∨ c = 7 ∨ c = 8 ∨ c = 9 ∨ c = 10 ∨ c = 11 := by omega
      clear hcx c1 c2
      cases hb : inB c 6 <;> rcases hcc with rfl | rfl | rfl | rfl | rfl | rfl | rfl | rfl | rfl | rfl | rfl
      all_goals first
        | (exact absurd hb (by decide +kernel))
        | (go_wp2_with (first
             | (go_at_call 50; refine (HIN.out _).mono ?_; rintro e w' ⟨rfl, rfl⟩)
             | (go_at_call 18; refine (reads_any _ _).mono ?_; rintro e w' ⟨rfl, rfl⟩)
             | (go_at_call 22; refine (sendable_any _ _).mono ?_; rintro e w' ⟨rfl, rfl⟩)
             | (go_at_call 43; refine (global_any _ _ _ hG3).mono ?_; rintro e w' ⟨rfl, rfl⟩))
           exact ⟨⟨6, by omega, rfl⟩, by simp [intOf]⟩)
end Go.Proofs.YtpggdojclhdkjaaDoor
