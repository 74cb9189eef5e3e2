/- Layer 7 (cap): the program's Store, Consumed and Recover: what they compute, for every argument. -/
import Derived.Test.YtpggdojclhdkjaaDoorCapB
namespace Go.Proofs.YtpggdojclhdkjaaDoor
open Go.RowKit

theorem counts_any (c m : Int) (w : World) : Calls Tryd.prog 56 #[.int .i64 c, .int .i64 m] w fun e w' => e = .returned (.int .i64 (cnt c m)) ∧ w = w' := by
  cases h1 : (m == 2) <;> cases h2 : (c == 1) <;> cases h3 : (c == 2)
  all_goals
    go_enter Tryd.func56, Tryd.ntmps56
    go_wp2
    go_ret
    exact ⟨ret_int (by simp [cnt, h1, h2, h3]), rfl⟩
theorem is_is (c : Int) (w : World) (b : Bool) (h : isC c = b) : Calls Tryd.prog 13 #[.int .i64 c] w fun e w' => e = .returned (.bool b) ∧ w = w' := by
  rw [← h]; exact is_any c w

theorem store_any (o c m : Int) (w : World) (hS : TStore w) :
    Calls Tryd.prog 39 #[.int .i64 o, .int .i64 c, .int .i64 m] w fun e w' => e = .returned (.bool (stores o c m)) ∧ ∃ n, w' = w.drewN n := by
  cases h1 : isC o
  · clear hS
    go_enter Tryd.func39, Tryd.ntmps39
    go_wp2_with fail
    go_quiet (first | (go_at_call 13; exact quietSame (is_is _ _ _ h1)))
    go_wp2
    go_ret
    exact ⟨ret_bool (by simp [stores, h1]), nq, rfl⟩
  · cases h2 : isCM c m
    · clear hS
      go_enter Tryd.func39, Tryd.ntmps39
      go_wp2_with fail
      go_quiet (first | (go_at_call 13; exact quietSame (is_is _ _ _ h1)) | (go_at_call 52; exact quietSame (isMarked_is _ _ _ _ h2)))
      go_wp2
      go_ret
      exact ⟨ret_bool (by simp [stores, h2]), nq, rfl⟩
    · obtain ⟨a1, a2⟩ := isC_bd h1
      have t1 := hS o.toNat (by simp [storeL]; omega)
      have hb := tbl_bd (l := storeL) (by kernel_rfl) o.toNat
      have e1 : stores o c m = hasB (storeL.getD o.toNat 0) (cnt c m) := by simp [stores, h1, h2]
      rw [e1]
      generalize storeL.getD o.toNat 0 = s at *
      clear hS e1
      go_enter Tryd.func39, Tryd.ntmps39
      go_wp2_with fail
      go_quiet (first | (go_at_call 13; exact quietSame (is_is _ _ _ h1)) | (go_at_call 52; exact quietSame (isMarked_is _ _ _ _ h2)) | (go_at_call 56; exact quietSame (counts_any _ _ _)) | (go_at_call 51; exact quietSame (has_any _ _ _ hb)))
      go_wp2
      go_ret
      exact ⟨rfl, nq, rfl⟩
end Go.Proofs.YtpggdojclhdkjaaDoor
