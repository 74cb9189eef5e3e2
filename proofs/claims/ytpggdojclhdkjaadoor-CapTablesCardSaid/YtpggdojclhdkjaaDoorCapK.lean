/- Layer 7 (cap): Consumed, Recover and the reference's Fits, Sub, Alias, Consumed, Recover, Members: what they compute, for every argument. -/
import Derived.Test.YtpggdojclhdkjaaDoorCapD
import Derived.Test.YtpggdojclhdkjaaDoorCapI
namespace Go.Proofs.YtpggdojclhdkjaaDoor
open Go.RowKit

def coC (c m : Int) : Int := if isCM c m then c else 0
def coM (c m : Int) : Int := if isCM c m then (if !unq c then 0 else if m == 2 then 2 else 1) else 0
def reI (c : Int) : Int := if isC c then recL.getD c.toNat 0 else 0

theorem consumed_any (c m : Int) (w : World) :
    Calls Tryd.prog 30 #[.int .i64 c, .int .i64 m] w fun e w' => e = .returned (.tuple #[.int .i64 (coC c m), .int .i64 (coM c m)]) ∧ w = w' := by
  cases h1 : isCM c m
  · have e1 : coC c m = 0 := by simp [coC, h1]
    have e2 : coM c m = 0 := by simp [coM, h1]
    rw [e1, e2]
    clear e1 e2
    go_enter Tryd.func30, Tryd.ntmps30
    go_wp2_with (first | (go_at_call 52; refine (isMarked_any _ _ _).mono ?_; rintro e w' ⟨rfl, rfl⟩) | (go_at_call 54; refine (unique_any _ _).mono ?_; rintro e w' ⟨rfl, rfl⟩))
    go_ret2
    exact ⟨rfl, rfl⟩
  · have e1 : coC c m = c := by simp [coC, h1]
    rw [e1]
    clear e1
    cases h2 : unq c <;> cases h3 : (m == 2)
    all_goals
      have e2 : coM c m = (if !unq c then 0 else if m == 2 then 2 else 1) := by simp [coM, h1, h2, h3]
      rw [e2, h2, h3]
      clear e2
      go_enter Tryd.func30, Tryd.ntmps30
      go_wp2_with (first | (go_at_call 52; refine (isMarked_any _ _ _).mono ?_; rintro e w' ⟨rfl, rfl⟩) | (go_at_call 54; refine (unique_any _ _).mono ?_; rintro e w' ⟨rfl, rfl⟩))
      go_ret2
      exact ⟨rfl, rfl⟩

theorem rconsumed_any (c m : Int) (w : World) :
    Calls Tryd.prog 31 #[.int .i64 c, .int .i64 m] w fun e w' => e = .returned (.tuple #[.int .i64 (coC c m), .int .i64 (coM c m)]) ∧ w = w' := by
  cases h1 : isCM c m
  · have e1 : coC c m = 0 := by simp [coC, h1]
    have e2 : coM c m = 0 := by simp [coM, h1]
    rw [e1, e2]
    clear e1 e2
    go_enter Tryd.func31, Tryd.ntmps31
    go_wp2_with (first | (go_at_call 53; refine (rmarked_any _ _ _).mono ?_; rintro e w' ⟨rfl, rfl⟩) | (go_at_call 55; refine (runique_any _ _).mono ?_; rintro e w' ⟨rfl, rfl⟩))
    go_ret2
    exact ⟨rfl, rfl⟩
  · have e1 : coC c m = c := by simp [coC, h1]
    rw [e1]
    clear e1
    cases h2 : unq c <;> cases h3 : (m == 2)
    all_goals
      have e2 : coM c m = (if !unq c then 0 else if m == 2 then 2 else 1) := by simp [coM, h1, h2, h3]
      rw [e2, h2, h3]
      clear e2
      go_enter Tryd.func31, Tryd.ntmps31
      go_wp2_with (first | (go_at_call 53; refine (rmarked_any _ _ _).mono ?_; rintro e w' ⟨rfl, rfl⟩) | (go_at_call 55; refine (runique_any _ _).mono ?_; rintro e w' ⟨rfl, rfl⟩))
      go_ret2
      exact ⟨rfl, rfl⟩

theorem ralias_any (c m : Int) (w : World) :
    Calls Tryd.prog 29 #[.int .i64 c, .int .i64 m] w fun e w' => e = .returned (.tuple #[.int .i64 (alC c m), .int .i64 (alM c m)]) ∧ w = w' := by
  cases h1 : isCM c m
  · have e1 : alC c m = 0 := by simp [alC, h1]
    have e2 : alM c m = 0 := by simp [alM, h1]
    rw [e1, e2]
    clear e1 e2
    go_enter Tryd.func29, Tryd.ntmps29
    go_wp2_with (first | (go_at_call 53; refine (rmarked_any _ _ _).mono ?_; rintro e w' ⟨rfl, rfl⟩) | (go_at_call 55; refine (runique_any _ _).mono ?_; rintro e w' ⟨rfl, rfl⟩))
    go_ret2
    exact ⟨rfl, rfl⟩
  · have e1 : alC c m = c := by simp [alC, h1]
    rw [e1]
    clear e1
    cases h2 : unq c <;> cases h3 : (m == 1)
    all_goals
      have e2 : alM c m = (if !unq c then 0 else if m == 1 then 0 else 2) := by simp [alM, h1, h2, h3]
      rw [e2, h2, h3]
      clear e2
      go_enter Tryd.func29, Tryd.ntmps29
      go_wp2_with (first | (go_at_call 53; refine (rmarked_any _ _ _).mono ?_; rintro e w' ⟨rfl, rfl⟩) | (go_at_call 55; refine (runique_any _ _).mono ?_; rintro e w' ⟨rfl, rfl⟩))
      go_ret2
      exact ⟨rfl, rfl⟩

theorem recover_any (c : Int) (w : World) (hR : TRec w) :
    Calls Tryd.prog 32 #[.int .i64 c] w fun e w' => e = .returned (.tuple #[.int .i64 (reI c), .bool (isC c)]) ∧ w = w' := by
  cases h1 : isC c
  · clear hR
    have e1 : reI c = 0 := by simp [reI, h1]
    rw [e1]
    go_enter Tryd.func32, Tryd.ntmps32
    go_wp2_with (go_at_call 13; refine (is_any _ _).mono ?_; rintro e w' ⟨rfl, rfl⟩)
    go_ret2
    exact ⟨rfl, rfl⟩
  · obtain ⟨a1, a2⟩ := isC_bd h1
    have t1 := hR c.toNat (by simp [recL]; omega)
    have e1 : reI c = recL.getD c.toNat 0 := by simp [reI, h1]
    rw [e1]
    generalize recL.getD c.toNat 0 = s at *
    clear hR e1
    go_enter Tryd.func32, Tryd.ntmps32
    go_wp2_with (go_at_call 13; refine (is_any _ _).mono ?_; rintro e w' ⟨rfl, rfl⟩)
    go_ret2
    exact ⟨rfl, rfl⟩

theorem rrecover_any (c : Int) (w : World) :
    Calls Tryd.prog 33 #[.int .i64 c] w fun e w' => e = .returned (.tuple #[.int .i64 (reI c), .bool (isC c)]) ∧ w = w' := by
  cases h : isC c
  · have e1 : reI c = 0 := by simp [reI, h]
    rw [e1]
    have n1 := isC_ne h 1 (by omega)
    have n2 := isC_ne h 2 (by omega)
    have n3 := isC_ne h 3 (by omega)
    have n4 := isC_ne h 4 (by omega)
    have n5 := isC_ne h 5 (by omega)
    have n6 := isC_ne h 6 (by omega)
    clear e1
    go_enter Tryd.func33, Tryd.ntmps33
    go_wp2
    go_ret2
    exact ⟨rfl, rfl⟩
  · rcases isC_cases h with rfl | rfl | rfl | rfl | rfl | rfl
    all_goals
      clear h
      go_enter Tryd.func33, Tryd.ntmps33
      go_wp2
      go_ret2
      exact ⟨ret_two (by kernel_rfl) rfl, rfl⟩

set_option maxHeartbeats 16000000 in
theorem rfits_1 (m b o : Int) (w : World) (h1 : isM m = true) (h2 : isCM b o = true) :
    Calls Tryd.prog 27 #[.int .i64 1, .int .i64 m, .int .i64 b, .int .i64 o] w fun e w' => e = .returned (.bool (fits 1 m b o)) ∧ w = w' := by
  simp only [isCM, Bool.and_eq_true] at h2
  obtain ⟨hb, ho⟩ := h2
  rcases isM_cases h1 with rfl | rfl | rfl <;> rcases isC_cases hb with rfl | rfl | rfl | rfl | rfl | rfl <;> rcases isM_cases ho with rfl | rfl | rfl
  all_goals
    clear h1 hb ho
    go_enter Tryd.func27, Tryd.ntmps27
    go_wp2
    go_ret
    exact ⟨ret_bool (by kernel_rfl), rfl⟩

set_option maxHeartbeats 16000000 in
theorem rfits_2 (m b o : Int) (w : World) (h1 : isM m = true) (h2 : isCM b o = true) :
    Calls Tryd.prog 27 #[.int .i64 2, .int .i64 m, .int .i64 b, .int .i64 o] w fun e w' => e = .returned (.bool (fits 2 m b o)) ∧ w = w' := by
  simp only [isCM, Bool.and_eq_true] at h2
  obtain ⟨hb, ho⟩ := h2
  rcases isM_cases h1 with rfl | rfl | rfl <;> rcases isC_cases hb with rfl | rfl | rfl | rfl | rfl | rfl <;> rcases isM_cases ho with rfl | rfl | rfl
  all_goals
    clear h1 hb ho
    go_enter Tryd.func27, Tryd.ntmps27
    go_wp2
    go_ret
    exact ⟨ret_bool (by kernel_rfl), rfl⟩

set_option maxHeartbeats 16000000 in
theorem rfits_3 (m b o : Int) (w : World) (h1 : isM m = true) (h2 : isCM b o = true) :
    Calls Tryd.prog 27 #[.int .i64 3, .int .i64 m, .int .i64 b, .int .i64 o] w fun e w' => e = .returned (.bool (fits 3 m b o)) ∧ w = w' := by
  simp only [isCM, Bool.and_eq_true] at h2
  obtain ⟨hb, ho⟩ := h2
  rcases isM_cases h1 with rfl | rfl | rfl <;> rcases isC_cases hb with rfl | rfl | rfl | rfl | rfl | rfl <;> rcases isM_cases ho with rfl | rfl | rfl
  all_goals
    clear h1 hb ho
    go_enter Tryd.func27, Tryd.ntmps27
    go_wp2
    go_ret
    exact ⟨ret_bool (by kernel_rfl), rfl⟩

set_option maxHeartbeats 16000000 in
theorem rfits_4 (m b o : Int) (w : World) (h1 : isM m = true) (h2 : isCM b o = true) :
    Calls Tryd.prog 27 #[.int .i64 4, .int .i64 m, .int .i64 b, .int .i64 o] w fun e w' => e = .returned (.bool (fits 4 m b o)) ∧ w = w' := by
  simp only [isCM, Bool.and_eq_true] at h2
  obtain ⟨hb, ho⟩ := h2
  rcases isM_cases h1 with rfl | rfl | rfl <;> rcases isC_cases hb with rfl | rfl | rfl | rfl | rfl | rfl <;> rcases isM_cases ho with rfl | rfl | rfl
  all_goals
    clear h1 hb ho
    go_enter Tryd.func27, Tryd.ntmps27
    go_wp2
    go_ret
    exact ⟨ret_bool (by kernel_rfl), rfl⟩

set_option maxHeartbeats 16000000 in
theorem rfits_5 (m b o : Int) (w : World) (h1 : isM m = true) (h2 : isCM b o = true) :
    Calls Tryd.prog 27 #[.int .i64 5, .int .i64 m, .int .i64 b, .int .i64 o] w fun e w' => e = .returned (.bool (fits 5 m b o)) ∧ w = w' := by
  simp only [isCM, Bool.and_eq_true] at h2
  obtain ⟨hb, ho⟩ := h2
  rcases isM_cases h1 with rfl | rfl | rfl <;> rcases isC_cases hb with rfl | rfl | rfl | rfl | rfl | rfl <;> rcases isM_cases ho with rfl | rfl | rfl
  all_goals
    clear h1 hb ho
    go_enter Tryd.func27, Tryd.ntmps27
    go_wp2
    go_ret
    exact ⟨ret_bool (by kernel_rfl), rfl⟩

set_option maxHeartbeats 16000000 in
theorem rfits_6 (m b o : Int) (w : World) (h1 : isM m = true) (h2 : isCM b o = true) :
    Calls Tryd.prog 27 #[.int .i64 6, .int .i64 m, .int .i64 b, .int .i64 o] w fun e w' => e = .returned (.bool (fits 6 m b o)) ∧ w = w' := by
  simp only [isCM, Bool.and_eq_true] at h2
  obtain ⟨hb, ho⟩ := h2
  rcases isM_cases h1 with rfl | rfl | rfl <;> rcases isC_cases hb with rfl | rfl | rfl | rfl | rfl | rfl <;> rcases isM_cases ho with rfl | rfl | rfl
  all_goals
    clear h1 hb ho
    go_enter Tryd.func27, Tryd.ntmps27
    go_wp2
    go_ret
    exact ⟨ret_bool (by kernel_rfl), rfl⟩

theorem rfits_any (a m b o : Int) (w : World) :
    Calls Tryd.prog 27 #[.int .i64 a, .int .i64 m, .int .i64 b, .int .i64 o] w fun e w' => e = .returned (.bool (fits a m b o)) ∧ w = w' := by
  cases h1 : isCM a m
  · go_enter Tryd.func27, Tryd.ntmps27
    go_wp2_with (go_at_call 53; refine (rmarked_any _ _ _).mono ?_; rintro e w' ⟨rfl, rfl⟩)
    go_ret
    exact ⟨ret_bool (by simp [fits, h1]), rfl⟩
  · cases h2 : isCM b o
    · go_enter Tryd.func27, Tryd.ntmps27
      go_wp2_with (go_at_call 53; refine (rmarked_any _ _ _).mono ?_; rintro e w' ⟨rfl, rfl⟩)
      go_ret
      exact ⟨ret_bool (by simp [fits, h2]), rfl⟩
    · simp only [isCM, Bool.and_eq_true] at h1
      obtain ⟨ha, hm⟩ := h1
      rcases isC_cases ha with rfl | rfl | rfl | rfl | rfl | rfl
      · exact rfits_1 m b o w hm h2
      · exact rfits_2 m b o w hm h2
      · exact rfits_3 m b o w hm h2
      · exact rfits_4 m b o w hm h2
      · exact rfits_5 m b o w hm h2
      · exact rfits_6 m b o w hm h2

theorem rsub_any (a b : Int) (w : World) :
    Calls Tryd.prog 25 #[.int .i64 a, .int .i64 b] w fun e w' => e = .returned (.bool (fits a 1 b 0)) ∧ w = w' := by
  go_enter Tryd.func25, Tryd.ntmps25
  go_wp2_with (go_at_call 27; refine (rfits_any _ _ _ _ _).mono ?_; rintro e w' ⟨rfl, rfl⟩)
  go_ret
  exact ⟨rfl, rfl⟩

/-- A slice value reads as a list of numbers. -/
def Row (w : World) (v : Value) (zs : List Int) : Prop :=
  (zs = [] ∧ ∃ a c, v = .slice a 0 c) ∨ (∃ g cap, v = .slice (some ⟨g, 0, none⟩) zs.length cap ∧ 0 < zs.length ∧ zs.length ≤ 1000 ∧ ∀ j, j < zs.length → w.cell? ⟨g, 0 + j, none⟩ = some (.int .i64 (zs.getD j 0)))
theorem Row.below {w w' : World} {v : Value} {zs : List Int} (h : Row w v zs) (hb : Below w.heap.size w w') : Row w' v zs := by
  rcases h with h | ⟨g, cap, h1, h2, h3, h4⟩
  · exact Or.inl h
  · exact Or.inr ⟨g, cap, h1, h2, h3, fun j hj => (hb.cell (p := ⟨g, 0 + j, none⟩) (block_lt (h4 j hj))).trans (h4 j hj)⟩
theorem equal_c (v1 v2 : Value) (zs : List Int) (w : World) (h1 : Row w v1 zs) (h2 : Row w v2 zs) :
    Calls Tryd.prog 15 #[v1, v2] w fun e w' => e = .returned (.bool true) ∧ ∃ n, w' = w.drewN n := by
  rcases h1 with ⟨h0, a, c, rfl⟩ | ⟨g, c, rfl, hp, hl, hc⟩ <;> rcases h2 with ⟨h0', a', c', rfl⟩ | ⟨g', c', rfl, hp', hl', hc'⟩
  · refine (Tryd.slices_Equal_int_empty a a' c 0 c' w (by omega)).mono ?_
    rintro e w' ⟨rfl, rfl⟩
    exact ⟨rfl, 0, rfl⟩
  · rw [h0] at hp'
    simp at hp'
  · rw [h0'] at hp
    simp at hp
  · refine (Tryd.slices_Equal_int g 0 zs.length c g' 0 zs.length c' zs zs w (Nat.le_refl _) (Nat.le_refl _) (by omega) (by omega) hc hc').mono ?_
    rintro e w' ⟨rfl, q, rfl⟩
    exact ⟨ret_bool (by simp), q, rfl⟩

def mlist (c : Int) : List Int := if 0 ≤ c ∧ c < 12 then mems c else []
theorem members_any (c : Int) (w : World) (hM : TMem w) : Calls Tryd.prog 16 #[.int .i64 c] w fun e w' => ∃ v, e = .returned v ∧ Row w' v (mlist c) ∧ Below w.heap.size w w' := by
  by_cases h : 0 ≤ c ∧ c < 12
  · have e : mlist c = mems c := by rw [mlist, if_pos h]
    rw [e]
    refine (members_in c w h.1 h.2 hM).mono ?_
    rintro e w' ⟨v, rfl, hown, hb⟩
    refine ⟨v, rfl, ?_, hb⟩
    by_cases h0 : 0 < (mems c).length
    · obtain ⟨_, g, cap, rfl, _, _, hcell, _⟩ := own_row hown h0
      exact Or.inr ⟨g, cap, rfl, h0, Nat.le_trans (memK_le _ _) (by omega), hcell⟩
    · have hz : mems c = [] := List.eq_nil_of_length_eq_zero (by omega)
      refine Or.inl ⟨hz, ?_⟩
      obtain ⟨_, h2⟩ := hown
      rw [hz] at h2
      rcases h2 with ⟨rfl, _⟩ | ⟨g, cap, cur, rfl, _⟩
      · exact ⟨none, 0, rfl⟩
      · exact ⟨_, cap, rfl⟩
  · have e : mlist c = [] := by rw [mlist, if_neg h]
    rw [e]
    refine (members_out c w (by omega)).mono ?_
    rintro e w' ⟨rfl, rfl⟩
    exact ⟨_, rfl, Or.inl ⟨rfl, none, 0, rfl⟩, Below.refl _ _⟩

theorem row_new (w : World) (cs : List Int) (t : TypeId) (h : 0 < cs.length) (h2 : cs.length ≤ 1000) (cap : Nat) : Row (w.alloc (.cells (cs.map (Value.int .i64)).toArray t)) (.slice (some ⟨w.heap.size, 0, none⟩) cs.length cap) cs := by
  refine Or.inr ⟨_, cap, rfl, h, h2, fun j hj => ?_⟩
  rw [World.cell?_alloc_at _ _ _ _ rfl]
  simp [List.getD, List.getElem?_eq_getElem hj]
set_option maxHeartbeats 4000000 in
theorem rmembers_any (c : Int) (w : World) : Calls Tryd.prog 17 #[.int .i64 c] w fun e w' => ∃ v, e = .returned v ∧ Row w' v (mlist c) ∧ Below w.heap.size w w' := by
  by_cases h : 1 ≤ c ∧ c ≤ 11
  · have hcc : c = 1 ∨ c = 2 ∨ c = 3 ∨ c = 4 ∨ c = 5 ∨ c = 6 ∨ c = 7 ∨ c = 8 ∨ c = 9 ∨ c = 10 ∨ c = 11 := by omega
    clear h
    rcases hcc with rfl | rfl | rfl | rfl | rfl | rfl | rfl | rfl | rfl | rfl | rfl
    all_goals
      go_enter Tryd.func17, Tryd.ntmps17
      go_wp2
      go_ret
      refine ⟨_, rfl, ?_, (Below.refl _ _).alloc (Nat.le_refl _) _⟩
    · exact row_new w [1] _ (by decide) (by decide) _
    · exact row_new w [2] _ (by decide) (by decide) _
    · exact row_new w [3] _ (by decide) (by decide) _
    · exact row_new w [4] _ (by decide) (by decide) _
    · exact row_new w [5] _ (by decide) (by decide) _
    · exact row_new w [6] _ (by decide) (by decide) _
    · exact row_new w [3, 4, 5] _ (by decide) (by decide) _
    · exact row_new w [1, 4, 6] _ (by decide) (by decide) _
    · exact row_new w [4, 6] _ (by decide) (by decide) _
    · exact row_new w [3, 4, 5, 6] _ (by decide) (by decide) _
    · exact row_new w [1, 2, 3, 4, 5, 6] _ (by decide) (by decide) _
  · have hi : isC c = false := by
      cases h' : isC c
      · rfl
      · have := isC_bd h'
        omega
    have e : mlist c = [] := by
      by_cases h0 : c = 0
      · subst h0
        decide +kernel
      · rw [mlist, if_neg (by omega)]
    rw [e]
    have n1 : (c == 7) = false := beq_eq_false_iff_ne.2 (by omega)
    have n2 : (c == 8) = false := beq_eq_false_iff_ne.2 (by omega)
    have n3 : (c == 9) = false := beq_eq_false_iff_ne.2 (by omega)
    have n4 : (c == 10) = false := beq_eq_false_iff_ne.2 (by omega)
    have n5 : (c == 11) = false := beq_eq_false_iff_ne.2 (by omega)
    clear h e
    go_enter Tryd.func17, Tryd.ntmps17
    go_wp2_with (go_at_call 14; refine (ris_any _ _).mono ?_; rintro e w' ⟨rfl, rfl⟩)
    go_ret
    exact ⟨_, rfl, Or.inl ⟨rfl, none, 0, rfl⟩, Below.refl _ _⟩
end Go.Proofs.YtpggdojclhdkjaaDoor
