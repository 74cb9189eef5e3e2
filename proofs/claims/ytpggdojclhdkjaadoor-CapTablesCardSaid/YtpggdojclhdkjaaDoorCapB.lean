/- Layer 7 (cap): what the package's functions on numbers compute: one contract a function, for every argument, in every memory in which the tables lie as the program lays them. Nothing is written; only the count of draws may turn. -/
import Derived.Test.YtpggdojclhdkjaaDoorProg
import Derived.Test.YtpggdojclhdkjaaDoorCapA
import Derived.Deep.Draws
import Derived.Deep.QuietTactic
import Derived.BigQuiet
namespace Go.Proofs.YtpggdojclhdkjaaDoor
open Go.RowKit

/-- The world but for draws. -/
def Dr (w w' : World) : Prop := ∃ n, w' = w.drewN n
theorem Dr.refl (w : World) : Dr w w := ⟨0, rfl⟩
theorem Dr.drew {w w' : World} {n : Nat} (h : Dr w w') : Dr w (w'.drewN n) := by
  obtain ⟨m, rfl⟩ := h
  exact ⟨m + n, by rw [World.drewN_drewN]⟩

/-- A table of integers lies in global variable g. -/
def Tab (g : Nat) (k : IntKind) (l : List Int) (w : World) : Prop := ∀ i, i < l.length → w.cell? ⟨g, i, none⟩ = some (.int k (l.getD i 0))
theorem Tab.drew {g : Nat} {k : IntKind} {l : List Int} {w : World} {n : Nat} (h : Tab g k l w) : Tab g k l (w.drewN n) := h
abbrev TFit (w : World) : Prop := Tab 2 .u64 fitL w
abbrev TBit (w : World) : Prop := Tab 3 .u64 bitL w
abbrev TStore (w : World) : Prop := Tab 6 .u64 storeL w
abbrev TLoc (w : World) : Prop := Tab 7 .u64 locL w
abbrev TGlob (w : World) : Prop := Tab 8 .u64 globL w
abbrev TRec (w : World) : Prop := Tab 4 .i64 recL w
abbrev TMem (w : World) : Prop := Tab 1 .u64 memL w
abbrev TView (w : World) : Prop := Tab 5 .i64 viewL w

theorem ret_bool {a b : Bool} (h : a = b) : Ending.returned (.bool a) = .returned (.bool b) := by rw [h]
theorem ret_int {k : IntKind} {a b : Int} (h : a = b) : Ending.returned (.int k a) = .returned (.int k b) := by rw [h]

/-- A contract that draws nothing, met in a quiet region. -/
theorem quietSame {P : Program} {f : FuncId} {args : Array Value} {w : World} {n : Nat} {v : Value}
    (h : Calls P f args (w.drewN n) fun e w' => e = .returned v ∧ w.drewN n = w') : Calls P f args (w.drewN n) fun e w'' => e = .returned v ∧ ∃ m, w'' = w.drewN m :=
  Calls.quiet_of_same (h.mono fun _ _ h => ⟨h.1, h.2.symm⟩)

theorem is_any (c : Int) (w : World) : Calls Tryd.prog 13 #[.int .i64 c] w fun e w' => e = .returned (.bool (isC c)) ∧ w = w' := by
  by_cases h1 : 1 ≤ c
  · by_cases h2 : c ≤ 6
    all_goals
      go_enter Tryd.func13, Tryd.ntmps13
      go_wp2
      go_ret
      exact ⟨ret_bool (by simp [isC]; omega), rfl⟩
  · go_enter Tryd.func13, Tryd.ntmps13
    go_wp2
    go_ret
    exact ⟨ret_bool (by simp [isC]; omega), rfl⟩

theorem isMarked_any (c m : Int) (w : World) : Calls Tryd.prog 52 #[.int .i64 c, .int .i64 m] w fun e w' => e = .returned (.bool (isCM c m)) ∧ w = w' := by
  cases hc : isC c
  · go_enter Tryd.func52, Tryd.ntmps52
    go_wp2_with (go_at_call 13; refine (is_any _ _).mono ?_; rintro e w' ⟨rfl, rfl⟩)
    go_ret
    exact ⟨ret_bool (by simp [isCM, hc]), rfl⟩
  · by_cases h1 : 0 ≤ m
    · by_cases h2 : m ≤ 2
      all_goals
        go_enter Tryd.func52, Tryd.ntmps52
        go_wp2_with (go_at_call 13; refine (is_any _ _).mono ?_; rintro e w' ⟨rfl, rfl⟩)
        go_ret
        exact ⟨ret_bool (by simp [isCM, isM, hc]; omega), rfl⟩
    · go_enter Tryd.func52, Tryd.ntmps52
      go_wp2_with (go_at_call 13; refine (is_any _ _).mono ?_; rintro e w' ⟨rfl, rfl⟩)
      go_ret
      exact ⟨ret_bool (by simp [isCM, isM, hc]; omega), rfl⟩

theorem has_any (s c : Int) (w : World) (hs : 0 ≤ s ∧ s ≤ 127) : Calls Tryd.prog 51 #[.int .u64 s, .int .i64 c] w fun e w' => e = .returned (.bool (hasB s c)) ∧ w = w' := by
  obtain ⟨s1, s2⟩ := hs
  cases hc : isC c
  · go_enter Tryd.func51, Tryd.ntmps51
    go_wp2_with (go_at_call 13; refine (is_any _ _).mono ?_; rintro e w' ⟨rfl, rfl⟩)
    go_ret
    exact ⟨ret_bool (by simp [hasB, hc]), rfl⟩
  · obtain ⟨c1, c2⟩ := isC_bd hc
    go_enter Tryd.func51, Tryd.ntmps51
    go_wp2_with (go_at_call 13; refine (is_any _ _).mono ?_; rintro e w' ⟨rfl, rfl⟩)
    go_ret
    exact ⟨ret_bool (by simp [hasB, hc]), rfl⟩

theorem reads_any (c : Int) (w : World) : Calls Tryd.prog 18 #[.int .i64 c] w fun e w' => e = .returned (.bool (reads c)) ∧ w = w' := by
  go_enter Tryd.func18, Tryd.ntmps18
  go_wp2_with (go_at_call 51; refine (has_any _ _ _ ⟨by omega, by omega⟩).mono ?_; rintro e w' ⟨rfl, rfl⟩)
  go_ret
  exact ⟨rfl, rfl⟩
theorem writes_any (c : Int) (w : World) : Calls Tryd.prog 20 #[.int .i64 c] w fun e w' => e = .returned (.bool (writes c)) ∧ w = w' := by
  go_enter Tryd.func20, Tryd.ntmps20
  go_wp2_with (go_at_call 51; refine (has_any _ _ _ ⟨by omega, by omega⟩).mono ?_; rintro e w' ⟨rfl, rfl⟩)
  go_ret
  exact ⟨rfl, rfl⟩
theorem sendable_any (c : Int) (w : World) : Calls Tryd.prog 22 #[.int .i64 c] w fun e w' => e = .returned (.bool (sendable c)) ∧ w = w' := by
  go_enter Tryd.func22, Tryd.ntmps22
  go_wp2_with (go_at_call 51; refine (has_any _ _ _ ⟨by omega, by omega⟩).mono ?_; rintro e w' ⟨rfl, rfl⟩)
  go_ret
  exact ⟨rfl, rfl⟩

theorem isMarked_is (c m : Int) (w : World) (b : Bool) (h : isCM c m = b) : Calls Tryd.prog 52 #[.int .i64 c, .int .i64 m] w fun e w' => e = .returned (.bool b) ∧ w = w' := by
  rw [← h]; exact isMarked_any c m w

theorem fits_any (a m b o : Int) (w : World) (hF : TFit w) (hB : TBit w) :
    Calls Tryd.prog 26 #[.int .i64 a, .int .i64 m, .int .i64 b, .int .i64 o] w fun e w' => e = .returned (.bool (fits a m b o)) ∧ ∃ n, w' = w.drewN n := by
  cases h1 : isCM a m
  · clear hF hB
    go_enter Tryd.func26, Tryd.ntmps26
    go_wp2_with fail
    go_quiet (first | (go_at_call 52; exact quietSame (isMarked_is _ _ _ _ h1)))
    go_wp2
    go_ret
    exact ⟨ret_bool (by simp [fits, h1]), nq, rfl⟩
  · cases h2 : isCM b o
    · clear hF hB
      go_enter Tryd.func26, Tryd.ntmps26
      go_wp2_with fail
      go_quiet (first | (go_at_call 52; first | exact quietSame (isMarked_is _ _ _ _ h1) | exact quietSame (isMarked_is _ _ _ _ h2)))
      go_wp2
      go_ret
      exact ⟨ret_bool (by simp [fits, h2]), nq, rfl⟩
    · have h1' := h1
      have h2' := h2
      simp only [isCM, Bool.and_eq_true] at h1' h2'
      obtain ⟨a1, a2⟩ := isC_bd h1'.1
      obtain ⟨m1, m2⟩ := isM_bd h1'.2
      obtain ⟨b1, b2⟩ := isC_bd h2'.1
      obtain ⟨o1, o2⟩ := isM_bd h2'.2
      have t1 := hF (a.toNat * 3 + m.toNat) (by simp [fitL]; omega)
      have t2 := hB (b.toNat * 3 + o.toNat) (by simp [bitL]; omega)
      clear hF hB h1' h2'
      go_enter Tryd.func26, Tryd.ntmps26
      go_wp2_with fail
      go_quiet (first | (go_at_call 52; first | exact quietSame (isMarked_is _ _ _ _ h1) | exact quietSame (isMarked_is _ _ _ _ h2)))
      go_wp2
      go_ret
      exact ⟨ret_bool (by simp [fits, h1, h2]), nq, rfl⟩

theorem sub_any (a b : Int) (w : World) (hF : TFit w) (hB : TBit w) :
    Calls Tryd.prog 24 #[.int .i64 a, .int .i64 b] w fun e w' => e = .returned (.bool (fits a 1 b 0)) ∧ ∃ n, w' = w.drewN n := by
  go_enter Tryd.func24, Tryd.ntmps24
  go_wp2_with (go_at_call 26; refine (fits_any _ _ _ _ _ hF hB).mono ?_; rintro e w' ⟨rfl, nq, rfl⟩)
  go_ret
  exact ⟨rfl, nq, rfl⟩

theorem view_any (o f : Int) (w : World) (hV : TView w) :
    Calls Tryd.prog 35 #[.int .i64 o, .int .i64 f] w fun e w' => e = .returned (.tuple #[.int .i64 (viewI o f), .bool (viewI o f != 0)]) ∧ w = w' := by
  cases h1 : isC o
  · clear hV
    have hv : viewI o f = 0 := by simp [viewI, h1]
    rw [hv]
    go_enter Tryd.func35, Tryd.ntmps35
    go_wp2_with (go_at_call 13; refine (is_any _ _).mono ?_; rintro e w' ⟨rfl, rfl⟩)
    go_ret2
    exact ⟨rfl, rfl⟩
  · cases h2 : isC f
    · clear hV
      have hv : viewI o f = 0 := by simp [viewI, h2]
      rw [hv]
      go_enter Tryd.func35, Tryd.ntmps35
      go_wp2_with (go_at_call 13; refine (is_any _ _).mono ?_; rintro e w' ⟨rfl, rfl⟩)
      go_ret2
      exact ⟨rfl, rfl⟩
    · obtain ⟨a1, a2⟩ := isC_bd h1
      obtain ⟨b1, b2⟩ := isC_bd h2
      have hv : viewI o f = viewL.getD (o.toNat * 7 + f.toNat) 0 := by simp [viewI, h1, h2]
      have t1 := hV (o.toNat * 7 + f.toNat) (by simp [viewL]; omega)
      rw [← hv] at t1
      clear hV hv
      go_enter Tryd.func35, Tryd.ntmps35
      go_wp2_with (go_at_call 13; refine (is_any _ _).mono ?_; rintro e w' ⟨rfl, rfl⟩)
      go_ret2
      exact ⟨rfl, rfl⟩

theorem unique_any (c : Int) (w : World) : Calls Tryd.prog 54 #[.int .i64 c] w fun e w' => e = .returned (.bool (unq c)) ∧ w = w' := by
  cases h1 : (c == 1)
  all_goals
    go_enter Tryd.func54, Tryd.ntmps54
    go_wp2
    go_ret
    exact ⟨ret_bool (by simp [unq, h1]), rfl⟩

theorem alias_any (c m : Int) (w : World) :
    Calls Tryd.prog 28 #[.int .i64 c, .int .i64 m] w fun e w' => e = .returned (.tuple #[.int .i64 (alC c m), .int .i64 (alM c m)]) ∧ w = w' := by
  cases h1 : isCM c m
  · have e1 : alC c m = 0 := by simp [alC, h1]
    have e2 : alM c m = 0 := by simp [alM, h1]
    rw [e1, e2]
    clear e1 e2
    go_enter Tryd.func28, Tryd.ntmps28
    go_wp2_with (first | (go_at_call 52; refine (isMarked_any _ _ _).mono ?_; rintro e w' ⟨rfl, rfl⟩) | (go_at_call 54; refine (unique_any _ _).mono ?_; rintro e w' ⟨rfl, rfl⟩))
    go_ret2
    exact ⟨rfl, rfl⟩
  · have e1 : alC c m = c := by simp [alC, h1]
    rw [e1]
    clear e1
    cases h2 : unq c
    · have e2 : alM c m = 0 := by simp [alM, h2]
      rw [e2]
      clear e2
      go_enter Tryd.func28, Tryd.ntmps28
      go_wp2_with (first | (go_at_call 52; refine (isMarked_any _ _ _).mono ?_; rintro e w' ⟨rfl, rfl⟩) | (go_at_call 54; refine (unique_any _ _).mono ?_; rintro e w' ⟨rfl, rfl⟩))
      go_ret2
      exact ⟨rfl, rfl⟩
    · cases h3 : (m == 1)
      · have e2 : alM c m = 2 := by simp [alM, h1, h2, h3]
        rw [e2]
        clear e2
        go_enter Tryd.func28, Tryd.ntmps28
        go_wp2_with (first | (go_at_call 52; refine (isMarked_any _ _ _).mono ?_; rintro e w' ⟨rfl, rfl⟩) | (go_at_call 54; refine (unique_any _ _).mono ?_; rintro e w' ⟨rfl, rfl⟩))
        go_ret2
        exact ⟨rfl, rfl⟩
      · have e2 : alM c m = 0 := by simp [alM, h3]
        rw [e2]
        clear e2
        go_enter Tryd.func28, Tryd.ntmps28
        go_wp2_with (first | (go_at_call 52; refine (isMarked_any _ _ _).mono ?_; rintro e w' ⟨rfl, rfl⟩) | (go_at_call 54; refine (unique_any _ _).mono ?_; rintro e w' ⟨rfl, rfl⟩))
        go_ret2
        exact ⟨rfl, rfl⟩

theorem extract_any (o f : Int) (w : World) (hV : TView w) :
    Calls Tryd.prog 37 #[.int .i64 o, .int .i64 f] w fun e w' => e = .returned (.tuple #[.int .i64 (exI o f), .int .i64 (exM o f), .bool (exB o f)]) ∧ w = w' := by
  cases h1 : writes o
  · have e1 : exI o f = 0 := by simp [exI, h1]
    have e2 : exM o f = 0 := by simp [exM, h1]
    have e3 : exB o f = false := by simp [exB, h1]
    rw [e1, e2, e3]
    clear e1 e2 e3
    go_enter Tryd.func37, Tryd.ntmps37
    go_wp2_with (first | (go_at_call 20; refine (writes_any _ _).mono ?_; rintro e w' ⟨rfl, rfl⟩) | (go_at_call 13; refine (is_any _ _).mono ?_; rintro e w' ⟨rfl, rfl⟩) | (go_at_call 35; refine (view_any _ _ _ hV).mono ?_; rintro e w' ⟨rfl, rfl⟩))
    go_ret3
    exact ⟨rfl, rfl⟩
  · cases h2 : isC f
    · have e1 : exI o f = 0 := by simp [exI, h2]
      have e2 : exM o f = 0 := by simp [exM, h2]
      have e3 : exB o f = false := by simp [exB, h2]
      rw [e1, e2, e3]
      clear e1 e2 e3
      go_enter Tryd.func37, Tryd.ntmps37
      go_wp2_with (first | (go_at_call 20; refine (writes_any _ _).mono ?_; rintro e w' ⟨rfl, rfl⟩) | (go_at_call 13; refine (is_any _ _).mono ?_; rintro e w' ⟨rfl, rfl⟩) | (go_at_call 35; refine (view_any _ _ _ hV).mono ?_; rintro e w' ⟨rfl, rfl⟩))
      go_ret3
      exact ⟨rfl, rfl⟩
    · have key : ∀ (p q r s : Bool), (f == 1) = p → (f == 2) = q → (o == 3) = r → (o == 2) = s →
          exI o f = (if p || (q && r) then f else if q && s then 5 else viewI o f) ∧ exM o f = (if p || (q && r) then 1 else 0) ∧ exB o f = (if p || (q && r) then true else if q && s then true else viewI o f != 0) := by
        intro p q r s hp hq hr hs
        subst hp hq hr hs
        simp [exI, exM, exB, h1, h2]
      cases hp : (f == 1) <;> cases hq : (f == 2) <;> cases hr : (o == 3) <;> cases hs : (o == 2)
      all_goals
        obtain ⟨e1, e2, e3⟩ := key _ _ _ _ hp hq hr hs
        rw [e1, e2, e3]
        clear e1 e2 e3 key
        go_enter Tryd.func37, Tryd.ntmps37
        go_wp2_with (first | (go_at_call 20; refine (writes_any _ _).mono ?_; rintro e w' ⟨rfl, rfl⟩) | (go_at_call 13; refine (is_any _ _).mono ?_; rintro e w' ⟨rfl, rfl⟩) | (go_at_call 35; refine (view_any _ _ _ hV).mono ?_; rintro e w' ⟨rfl, rfl⟩))
        go_ret3
        exact ⟨rfl, rfl⟩

theorem tbl_bd {l : List Int} (h : l.all (fun z => decide (0 ≤ z) && decide (z ≤ 127)) = true) (i : Nat) : 0 ≤ l.getD i 0 ∧ l.getD i 0 ≤ 127 := by
  rw [List.getD]
  cases hi : l[i]? with
  | none => exact ⟨by simp, by simp⟩
  | some z =>
    have := List.all_eq_true.1 h z (List.mem_of_getElem? hi)
    simpa using this

theorem local_any (a b : Int) (w : World) (hLo : TLoc w) :
    Calls Tryd.prog 41 #[.int .i64 a, .int .i64 b] w fun e w' => e = .returned (.bool (loc a b)) ∧ w = w' := by
  cases h1 : isC a
  · clear hLo
    go_enter Tryd.func41, Tryd.ntmps41
    go_wp2_with (go_at_call 13; refine (is_any _ _).mono ?_; rintro e w' ⟨rfl, rfl⟩)
    go_ret
    exact ⟨ret_bool (by simp [loc, h1]), rfl⟩
  · obtain ⟨a1, a2⟩ := isC_bd h1
    have t1 := hLo a.toNat (by simp [locL]; omega)
    have hb := tbl_bd (l := locL) (by kernel_rfl) a.toNat
    have e1 : loc a b = hasB (locL.getD a.toNat 0) b := by simp [loc, h1]
    rw [e1]
    generalize locL.getD a.toNat 0 = s at *
    clear hLo e1
    go_enter Tryd.func41, Tryd.ntmps41
    go_wp2_with (first
      | (go_at_call 13; refine (is_any _ _).mono ?_; rintro e w' ⟨rfl, rfl⟩)
      | (go_at_call 51; refine (has_any _ _ _ hb).mono ?_; rintro e w' ⟨rfl, rfl⟩))
    go_ret
    exact ⟨rfl, rfl⟩

theorem global_any (a b : Int) (w : World) (hG : TGlob w) :
    Calls Tryd.prog 43 #[.int .i64 a, .int .i64 b] w fun e w' => e = .returned (.bool (glob a b)) ∧ w = w' := by
  cases h1 : isC a
  · clear hG
    go_enter Tryd.func43, Tryd.ntmps43
    go_wp2_with (go_at_call 13; refine (is_any _ _).mono ?_; rintro e w' ⟨rfl, rfl⟩)
    go_ret
    exact ⟨ret_bool (by simp [glob, h1]), rfl⟩
  · obtain ⟨a1, a2⟩ := isC_bd h1
    have t1 := hG a.toNat (by simp [globL]; omega)
    have hb := tbl_bd (l := globL) (by kernel_rfl) a.toNat
    have e1 : glob a b = hasB (globL.getD a.toNat 0) b := by simp [glob, h1]
    rw [e1]
    generalize globL.getD a.toNat 0 = s at *
    clear hG e1
    go_enter Tryd.func43, Tryd.ntmps43
    go_wp2_with (first
      | (go_at_call 13; refine (is_any _ _).mono ?_; rintro e w' ⟨rfl, rfl⟩)
      | (go_at_call 51; refine (has_any _ _ _ hb).mono ?_; rintro e w' ⟨rfl, rfl⟩))
    go_ret
    exact ⟨rfl, rfl⟩

theorem one_any (c : Int) (w : World) (hc : 0 ≤ c ∧ c ≤ 255) : Calls Tryd.prog 45 #[.int .u8 c] w fun e w' => e = .returned (.int .i64 (1 + c % 6)) ∧ w = w' := by
  obtain ⟨a1, a2⟩ := hc
  go_enter Tryd.func45, Tryd.ntmps45
  go_wp2
  go_ret
  exact ⟨rfl, rfl⟩
theorem mark_any (c : Int) (w : World) (hc : 0 ≤ c ∧ c ≤ 255) : Calls Tryd.prog 46 #[.int .u8 c] w fun e w' => e = .returned (.int .i64 (c % 3)) ∧ w = w' := by
  obtain ⟨a1, a2⟩ := hc
  go_enter Tryd.func46, Tryd.ntmps46
  go_wp2
  go_ret
  exact ⟨rfl, rfl⟩

theorem awake_any (w : World) (hF : TFit w) (hB : TBit w) (hV : TView w) :
    Calls Tryd.prog 34 #[] w fun e w' => e = .returned (.bool true) ∧ ∃ n, w' = w.drewN n := by
  have v1 : viewI 1 3 = 6 := by kernel_rfl
  have v2 : viewI 4 3 = 4 := by kernel_rfl
  have v3 : alC 1 0 = 1 := by kernel_rfl
  have v4 : alM 1 0 = 2 := by kernel_rfl
  have v5 : exI 3 1 = 1 := by kernel_rfl
  have v6 : exM 3 1 = 1 := by kernel_rfl
  have v7 : exB 3 1 = true := by kernel_rfl
  have v8 : fits 1 2 6 0 = true := by kernel_rfl
  have v9 : fits 1 2 5 0 = false := by kernel_rfl
  go_enter Tryd.func34, Tryd.ntmps34
  go_wp2_with (first
    | (go_at_call 35; refine (view_any _ _ _ hV).mono ?_; rintro e w' ⟨rfl, rfl⟩)
    | (go_at_call 28; refine (alias_any _ _ _).mono ?_; rintro e w' ⟨rfl, rfl⟩)
    | (go_at_call 37; refine (extract_any _ _ _ hV).mono ?_; rintro e w' ⟨rfl, rfl⟩)
    | (go_at_call 26; refine (fits_any _ _ _ _ _ (by first | exact hF | exact hF.drew) (by first | exact hB | exact hB.drew)).mono ?_; rintro e w' ⟨rfl, nq, rfl⟩))
  go_ret
  exact ⟨rfl, (by repeat (first | exact Dr.refl _ | refine Dr.drew ?_) : Dr _ _)⟩
end Go.Proofs.YtpggdojclhdkjaaDoor
