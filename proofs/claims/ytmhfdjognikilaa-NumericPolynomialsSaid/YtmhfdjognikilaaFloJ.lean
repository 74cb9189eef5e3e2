/- Layer 16, part J. -/
import Derived.Test.YtmhfdjognikilaaFloI
namespace Go.Proofs.Ytmhfdjognikilaa
open Go.RowKit Go.Shelf

theorem num_of {b : Nat} (h : Ieee.single.order b b = some .eq) : Num b := h

theorem sqrt25 : Extern.MathSqrt.sqrt #[.float .f64 4627730092099895296] = pure (.float .f64 4617315517961601024) := by
  have h : FloatKind.f64.format.sqrt 4627730092099895296 = some 4617315517961601024 := by kernel_rfl
  show (match FloatKind.f64.format.sqrt 4627730092099895296 with
    | some r => (pure (Value.float .f64 r) : Sem Value)
    | none => do pure (Value.float .f64 (← choose (.nanBits .f64 4627730092099895296 4627730092099895296)))) = _
  rw [h]
@[go_sem] theorem run78 (w : World) : (callFunc 78 #[.float .f64 4627730092099895296]).run Try.prog w = .ok (.value (.float .f64 4617315517961601024)) w := by
  rw [run_callFunc_extern (e := Extern.MathSqrt.sqrt) Try.func78 (by kernel_rfl) (by kernel_rfl) (by kernel_rfl) (by kernel_rfl), sqrt25]
  rfl

set_option maxRecDepth 100000 in
theorem sqrt_25 (w : World) : Is 59 #[.float .f64 4627730092099895296] w (.float .f64 4617315517961601024) := by
  go_enter Try.func59, Try.ntmps59
  go_wp2
  go_ret
  exact ⟨rfl, rfl⟩

set_option maxRecDepth 100000 in
theorem narrow_5 (w : World) : Is 58 #[.float .f64 4617315517961601024] w (.float .f32 1084227584) := by
  have h1 := fun w => run_convert_float_float (P := Try.prog) (w := w) 88 29 .f64 .f32 4617315517961601024 1084227584 rfl rfl (by kernel_rfl)
  go_enter Try.func58, Try.ntmps58
  go_wp2
  go_ret
  exact ⟨rfl, rfl⟩

set_option maxRecDepth 100000 in
theorem abs_34 (w : World) : Gives 25 #[numV 1077936128 1082130432] w (.int .u32 1084227584) := by
  have h1 := fun w => run_convert_float_float (P := Try.prog) (w := w) 29 88 .f32 .f64 1077936128 4613937818241073152 rfl rfl (by kernel_rfl)
  have h2 := fun w => run_convert_float_float (P := Try.prog) (w := w) 29 88 .f32 .f64 1082130432 4616189618054758400 rfl rfl (by kernel_rfl)
  have h3 := fun w => run_float_arith (P := Try.prog) (w := w) .mul 88 .f64 4613937818241073152 4613937818241073152 4621256167635550208 (by kernel_rfl)
  have h4 := fun w => run_float_arith (P := Try.prog) (w := w) .mul 88 .f64 4616189618054758400 4616189618054758400 4625196817309499392 (by kernel_rfl)
  have h5 := fun w => run_float_arith (P := Try.prog) (w := w) .add 88 .f64 4621256167635550208 4625196817309499392 4627730092099895296 (by kernel_rfl)
  go_enter Try.func25, Try.ntmps25
  go_wp2_with (first
    | (go_at_call 11; refine (parts_any _ _ _ (num_of (by kernel_rfl)) (num_of (by kernel_rfl))).mono ?_; rintro e w1 ⟨rfl, hB1⟩)
    | (go_at_call 59; refine (sqrt_25 _).mono ?_; rintro e w' ⟨rfl, rfl⟩)
    | (go_at_call 58; refine (narrow_5 _).mono ?_; rintro e w' ⟨rfl, rfl⟩)
    | (go_at_call 52; refine (bitsOf_any _ _ (num_of (by kernel_rfl))).mono ?_; rintro e w' ⟨rfl, rfl⟩))

  go_ret
  exact ⟨rfl, ((Below.refl _ _).alloc (Nat.le_refl _) _).trans (hB1.mono (by simp))⟩
end Go.Proofs.Ytmhfdjognikilaa
