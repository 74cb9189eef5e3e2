/- Layer 7 (cap): what the reference's functions on numbers compute: the same functions on numbers as the program's (CapA), for every argument. They read no memory. -/
import Derived.Test.YtpggdojclhdkjaaDoorCapB
namespace Go.Proofs.YtpggdojclhdkjaaDoor
open Go.RowKit

theorem isC_cases {c : Int} (h : isC c = true) : c = 1 ∨ c = 2 ∨ c = 3 ∨ c = 4 ∨ c = 5 ∨ c = 6 := by
  have := isC_bd h
  omega
theorem isM_cases {c : Int} (h : isM c = true) : c = 0 ∨ c = 1 ∨ c = 2 := by
  have := isM_bd h
  omega
theorem isC_ne {c : Int} (h : isC c = false) (k : Int) (hk : 1 ≤ k ∧ k ≤ 6) : (c == k) = false := by
  rw [beq_eq_false_iff_ne]
  rintro rfl
  rw [isC_true hk] at h
  cases h
theorem ret_two {a b : Int} {p q : Bool} (h : a = b) (h2 : p = q) : Ending.returned (.tuple #[.int .i64 a, .bool p]) = .returned (.tuple #[.int .i64 b, .bool q]) := by rw [h, h2]
theorem ret_ints {a b p q : Int} (h : a = b) (h2 : p = q) : Ending.returned (.tuple #[.int .i64 a, .int .i64 p]) = .returned (.tuple #[.int .i64 b, .int .i64 q]) := by rw [h, h2]
theorem ret_three {a b c d : Int} {p q : Bool} (h : a = b) (h1 : c = d) (h2 : p = q) : Ending.returned (.tuple #[.int .i64 a, .int .i64 c, .bool p]) = .returned (.tuple #[.int .i64 b, .int .i64 d, .bool q]) := by rw [h, h1, h2]

theorem ris_any (c : Int) (w : World) : Calls Tryd.prog 14 #[.int .i64 c] w fun e w' => e = .returned (.bool (isC c)) ∧ w = w' := by
  by_cases h1 : 1 ≤ c
  · by_cases h2 : c ≤ 6
    all_goals
      go_enter Tryd.func14, Tryd.ntmps14
      go_wp2
      go_ret
      exact ⟨ret_bool (by simp [isC]; omega), rfl⟩
  · go_enter Tryd.func14, Tryd.ntmps14
    go_wp2
    go_ret
    exact ⟨ret_bool (by simp [isC]; omega), rfl⟩

theorem rmarked_any (c m : Int) (w : World) : Calls Tryd.prog 53 #[.int .i64 c, .int .i64 m] w fun e w' => e = .returned (.bool (isCM c m)) ∧ w = w' := by
  cases hc : isC c
  · go_enter Tryd.func53, Tryd.ntmps53
    go_wp2_with (go_at_call 14; refine (ris_any _ _).mono ?_; rintro e w' ⟨rfl, rfl⟩)
    go_ret
    exact ⟨ret_bool (by simp [isCM, hc]), rfl⟩
  · by_cases h1 : 0 ≤ m
    · by_cases h2 : m ≤ 2
      all_goals
        go_enter Tryd.func53, Tryd.ntmps53
        go_wp2_with (go_at_call 14; refine (ris_any _ _).mono ?_; rintro e w' ⟨rfl, rfl⟩)
        go_ret
        exact ⟨ret_bool (by simp [isCM, isM, hc]; omega), rfl⟩
    · go_enter Tryd.func53, Tryd.ntmps53
      go_wp2_with (go_at_call 14; refine (ris_any _ _).mono ?_; rintro e w' ⟨rfl, rfl⟩)
      go_ret
      exact ⟨ret_bool (by simp [isCM, isM, hc]; omega), rfl⟩

theorem rreads_any (c : Int) (w : World) : Calls Tryd.prog 19 #[.int .i64 c] w fun e w' => e = .returned (.bool (reads c)) ∧ w = w' := by
  cases h : isC c
  · have n1 := isC_ne h 1 (by omega)
    have n2 := isC_ne h 2 (by omega)
    have n3 := isC_ne h 3 (by omega)
    have n4 := isC_ne h 4 (by omega)
    have n5 := isC_ne h 5 (by omega)
    have n6 := isC_ne h 6 (by omega)
    go_enter Tryd.func19, Tryd.ntmps19
    go_wp2_with (go_at_call 14; refine (ris_any _ _).mono ?_; rintro e w' ⟨rfl, rfl⟩)
    go_ret
    exact ⟨ret_bool (by simp [reads, hasB, h]), rfl⟩
  · rcases isC_cases h with rfl | rfl | rfl | rfl | rfl | rfl
    all_goals
      clear h
      go_enter Tryd.func19, Tryd.ntmps19
      go_wp2_with (go_at_call 14; refine (ris_any _ _).mono ?_; rintro e w' ⟨rfl, rfl⟩)
      go_ret
      exact ⟨ret_bool (by kernel_rfl), rfl⟩

theorem rwrites_any (c : Int) (w : World) : Calls Tryd.prog 21 #[.int .i64 c] w fun e w' => e = .returned (.bool (writes c)) ∧ w = w' := by
  cases h : isC c
  · have n1 := isC_ne h 1 (by omega)
    have n2 := isC_ne h 2 (by omega)
    have n3 := isC_ne h 3 (by omega)
    have n4 := isC_ne h 4 (by omega)
    have n5 := isC_ne h 5 (by omega)
    have n6 := isC_ne h 6 (by omega)
    go_enter Tryd.func21, Tryd.ntmps21
    go_wp2
    go_ret
    exact ⟨ret_bool (by simp [writes, hasB, h]), rfl⟩
  · rcases isC_cases h with rfl | rfl | rfl | rfl | rfl | rfl
    all_goals
      clear h
      go_enter Tryd.func21, Tryd.ntmps21
      go_wp2
      go_ret
      exact ⟨ret_bool (by kernel_rfl), rfl⟩

theorem rsendable_any (c : Int) (w : World) : Calls Tryd.prog 23 #[.int .i64 c] w fun e w' => e = .returned (.bool (sendable c)) ∧ w = w' := by
  cases h : isC c
  · have n1 := isC_ne h 1 (by omega)
    have n2 := isC_ne h 2 (by omega)
    have n3 := isC_ne h 3 (by omega)
    have n4 := isC_ne h 4 (by omega)
    have n5 := isC_ne h 5 (by omega)
    have n6 := isC_ne h 6 (by omega)
    go_enter Tryd.func23, Tryd.ntmps23
    go_wp2
    go_ret
    exact ⟨ret_bool (by simp [sendable, hasB, h]), rfl⟩
  · rcases isC_cases h with rfl | rfl | rfl | rfl | rfl | rfl
    all_goals
      clear h
      go_enter Tryd.func23, Tryd.ntmps23
      go_wp2
      go_ret
      exact ⟨ret_bool (by kernel_rfl), rfl⟩

theorem runique_any (c : Int) (w : World) : Calls Tryd.prog 55 #[.int .i64 c] w fun e w' => e = .returned (.bool (unq c)) ∧ w = w' := by
  cases h1 : (c == 1)
  all_goals
    go_enter Tryd.func55, Tryd.ntmps55
    go_wp2
    go_ret
    exact ⟨ret_bool (by simp [unq, h1]), rfl⟩

set_option maxHeartbeats 4000000 in
theorem rview_any (o f : Int) (w : World) : Calls Tryd.prog 36 #[.int .i64 o, .int .i64 f] w fun e w' => e = .returned (.tuple #[.int .i64 (viewI o f), .bool (viewI o f != 0)]) ∧ w = w' := by
  cases h1 : isC o
  · go_enter Tryd.func36, Tryd.ntmps36
    go_wp2_with (first | (go_at_call 14; refine (ris_any _ _).mono ?_; rintro e w' ⟨rfl, rfl⟩) | (go_at_call 55; refine (runique_any _ _).mono ?_; rintro e w' ⟨rfl, rfl⟩))
    go_ret2
    exact ⟨ret_two (by simp [viewI, *]) (by simp [viewI, *]), rfl⟩
  · cases h2 : isC f
    · go_enter Tryd.func36, Tryd.ntmps36
      go_wp2_with (first | (go_at_call 14; refine (ris_any _ _).mono ?_; rintro e w' ⟨rfl, rfl⟩) | (go_at_call 55; refine (runique_any _ _).mono ?_; rintro e w' ⟨rfl, rfl⟩))
      go_ret2
      exact ⟨ret_two (by simp [viewI, *]) (by simp [viewI, *]), rfl⟩
    · rcases isC_cases h1 with rfl | rfl | rfl | rfl | rfl | rfl <;> rcases isC_cases h2 with rfl | rfl | rfl | rfl | rfl | rfl
      all_goals
        go_enter Tryd.func36, Tryd.ntmps36
        go_wp2_with (first | (go_at_call 14; refine (ris_any _ _).mono ?_; rintro e w' ⟨rfl, rfl⟩) | (go_at_call 55; refine (runique_any _ _).mono ?_; rintro e w' ⟨rfl, rfl⟩))
        go_ret2
        exact ⟨ret_two (by kernel_rfl) (by kernel_rfl), rfl⟩

theorem writes_C {o : Int} (h : isC o = false) : writes o = false := by simp [writes, hasB, h]

set_option maxHeartbeats 8000000 in
theorem rextract_any (o f : Int) (w : World) : Calls Tryd.prog 38 #[.int .i64 o, .int .i64 f] w fun e w' => e = .returned (.tuple #[.int .i64 (exI o f), .int .i64 (exM o f), .bool (exB o f)]) ∧ w = w' := by
  cases h1 : writes o
  · go_enter Tryd.func38, Tryd.ntmps38
    go_wp2_with (first | (go_at_call 14; refine (ris_any _ _).mono ?_; rintro e w' ⟨rfl, rfl⟩) | (go_at_call 21; refine (rwrites_any _ _).mono ?_; rintro e w' ⟨rfl, rfl⟩) | (go_at_call 36; refine (rview_any _ _ _).mono ?_; rintro e w' ⟨rfl, rfl⟩))
    go_ret3
    exact ⟨ret_three (by simp [exI, h1]) (by simp [exM, h1]) (by simp [exB, h1]), rfl⟩
  · cases h2 : isC f
    · go_enter Tryd.func38, Tryd.ntmps38
      go_wp2_with (first | (go_at_call 14; refine (ris_any _ _).mono ?_; rintro e w' ⟨rfl, rfl⟩) | (go_at_call 21; refine (rwrites_any _ _).mono ?_; rintro e w' ⟨rfl, rfl⟩) | (go_at_call 36; refine (rview_any _ _ _).mono ?_; rintro e w' ⟨rfl, rfl⟩))
      go_ret3
      exact ⟨ret_three (by simp [exI, h2]) (by simp [exM, h2]) (by simp [exB, h2]), rfl⟩
    · have h3 : isC o = true := by
        cases h : isC o
        · rw [writes_C h] at h1; cases h1
        · rfl
      rcases isC_cases h3 with rfl | rfl | rfl | rfl | rfl | rfl
      all_goals first
        | (exact absurd h1 (by decide))
        | (rcases isC_cases h2 with rfl | rfl | rfl | rfl | rfl | rfl
           all_goals
             go_enter Tryd.func38, Tryd.ntmps38
             go_wp2_with (first | (go_at_call 14; refine (ris_any _ _).mono ?_; rintro e w' ⟨rfl, rfl⟩) | (go_at_call 21; refine (rwrites_any _ _).mono ?_; rintro e w' ⟨rfl, rfl⟩) | (go_at_call 36; refine (rview_any _ _ _).mono ?_; rintro e w' ⟨rfl, rfl⟩))
             go_ret3
             exact ⟨ret_three (by kernel_rfl) (by kernel_rfl) (by kernel_rfl), rfl⟩)

theorem rcounts_any (c m : Int) (w : World) : Calls Tryd.prog 57 #[.int .i64 c, .int .i64 m] w fun e w' => e = .returned (.int .i64 (cnt c m)) ∧ w = w' := by
  cases h1 : (m == 2) <;> cases h2 : (c == 1) <;> cases h3 : (c == 2)
  all_goals
    go_enter Tryd.func57, Tryd.ntmps57
    go_wp2
    go_ret
    exact ⟨ret_int (by simp [cnt, h1, h2, h3]), rfl⟩

set_option maxHeartbeats 16000000 in
theorem rstore_any (o c m : Int) (w : World) : Calls Tryd.prog 40 #[.int .i64 o, .int .i64 c, .int .i64 m] w fun e w' => e = .returned (.bool (stores o c m)) ∧ w = w' := by
  cases h1 : writes o
  · go_enter Tryd.func40, Tryd.ntmps40
    go_wp2_with (first | (go_at_call 53; refine (rmarked_any _ _ _).mono ?_; rintro e w' ⟨rfl, rfl⟩) | (go_at_call 21; refine (rwrites_any _ _).mono ?_; rintro e w' ⟨rfl, rfl⟩) | (go_at_call 57; refine (rcounts_any _ _ _).mono ?_; rintro e w' ⟨rfl, rfl⟩) | (go_at_call 23; refine (rsendable_any _ _).mono ?_; rintro e w' ⟨rfl, rfl⟩))
    go_ret
    refine ⟨ret_bool ?_, rfl⟩
    cases h : isC o
    · simp [stores, h]
    · rcases isC_cases h with rfl | rfl | rfl | rfl | rfl | rfl
      all_goals first
        | (exact absurd h1 (by decide))
        | (cases h2 : isCM c m
           · simp [stores, h2]
           · simp only [isCM, Bool.and_eq_true] at h2
             rcases isC_cases h2.1 with rfl | rfl | rfl | rfl | rfl | rfl <;> rcases isM_cases h2.2 with rfl | rfl | rfl <;> kernel_rfl)
  · cases h2 : isCM c m
    · go_enter Tryd.func40, Tryd.ntmps40
      go_wp2_with (first | (go_at_call 53; refine (rmarked_any _ _ _).mono ?_; rintro e w' ⟨rfl, rfl⟩) | (go_at_call 21; refine (rwrites_any _ _).mono ?_; rintro e w' ⟨rfl, rfl⟩) | (go_at_call 57; refine (rcounts_any _ _ _).mono ?_; rintro e w' ⟨rfl, rfl⟩) | (go_at_call 23; refine (rsendable_any _ _).mono ?_; rintro e w' ⟨rfl, rfl⟩))
      go_ret
      exact ⟨ret_bool (by simp [stores, h2]), rfl⟩
    · have h3 : isC o = true := by
        cases h : isC o
        · rw [writes_C h] at h1; cases h1
        · rfl
      have h4 := h2
      simp only [isCM, Bool.and_eq_true] at h4
      rcases isC_cases h3 with rfl | rfl | rfl | rfl | rfl | rfl
      all_goals first
        | (exact absurd h1 (by decide))
        | (clear h3
           rcases isC_cases h4.1 with rfl | rfl | rfl | rfl | rfl | rfl <;> rcases isM_cases h4.2 with rfl | rfl | rfl
           all_goals
             clear h4
             go_enter Tryd.func40, Tryd.ntmps40
             go_wp2_with (first | (go_at_call 53; refine (rmarked_any _ _ _).mono ?_; rintro e w' ⟨rfl, rfl⟩) | (go_at_call 21; refine (rwrites_any _ _).mono ?_; rintro e w' ⟨rfl, rfl⟩) | go_in)
             go_ret
             exact ⟨ret_bool (by kernel_rfl), rfl⟩)

set_option maxHeartbeats 8000000 in
theorem rlocal_any (o f : Int) (w : World) : Calls Tryd.prog 42 #[.int .i64 o, .int .i64 f] w fun e w' => e = .returned (.bool (loc o f)) ∧ w = w' := by
  cases h1 : isC o
  · go_enter Tryd.func42, Tryd.ntmps42
    go_wp2_with (go_at_call 14; refine (ris_any _ _).mono ?_; rintro e w' ⟨rfl, rfl⟩)
    go_ret
    exact ⟨ret_bool (by simp [loc, h1]), rfl⟩
  · cases h2 : isC f
    · go_enter Tryd.func42, Tryd.ntmps42
      go_wp2_with (go_at_call 14; refine (ris_any _ _).mono ?_; rintro e w' ⟨rfl, rfl⟩)
      go_ret
      exact ⟨ret_bool (by simp [loc, hasB, h2]), rfl⟩
    · rcases isC_cases h1 with rfl | rfl | rfl | rfl | rfl | rfl <;> rcases isC_cases h2 with rfl | rfl | rfl | rfl | rfl | rfl
      all_goals
        clear h1 h2
        go_enter Tryd.func42, Tryd.ntmps42
        go_wp2
        go_ret
        exact ⟨ret_bool (by kernel_rfl), rfl⟩

set_option maxHeartbeats 8000000 in
theorem rglobal_any (o f : Int) (w : World) : Calls Tryd.prog 44 #[.int .i64 o, .int .i64 f] w fun e w' => e = .returned (.bool (glob o f)) ∧ w = w' := by
  cases h1 : isC o
  · go_enter Tryd.func44, Tryd.ntmps44
    go_wp2_with (go_at_call 14; refine (ris_any _ _).mono ?_; rintro e w' ⟨rfl, rfl⟩)
    go_ret
    exact ⟨ret_bool (by simp [glob, h1]), rfl⟩
  · cases h2 : isC f
    · go_enter Tryd.func44, Tryd.ntmps44
      go_wp2_with (go_at_call 14; refine (ris_any _ _).mono ?_; rintro e w' ⟨rfl, rfl⟩)
      go_ret
      exact ⟨ret_bool (by simp [glob, hasB, h2]), rfl⟩
    · rcases isC_cases h1 with rfl | rfl | rfl | rfl | rfl | rfl <;> rcases isC_cases h2 with rfl | rfl | rfl | rfl | rfl | rfl
      all_goals
        clear h1 h2
        go_enter Tryd.func44, Tryd.ntmps44
        go_wp2
        go_ret
        exact ⟨ret_bool (by kernel_rfl), rfl⟩

end Go.Proofs.YtpggdojclhdkjaaDoor
