/- Layer 16, part K. -/
import Derived.Test.YtmhfdjognikilaaFloJ
import Derived.Great.BuildSlice
namespace Go.Proofs.Ytmhfdjognikilaa
open Go.RowKit Go.Shelf

theorem bits57_any (b : Nat) (w : World) (h : Num b) : Is 57 #[.float .f32 b] w (.int .u32 b) := by
  have h1 : (FloatKind.f32.format.order b b != some .eq) = false := by have : FloatKind.f32.format.order b b = some .eq := h; simp [this]
  clear h
  go_enter Try.func57, Try.ntmps57
  go_wp2
  go_ret
  exact ⟨rfl, rfl⟩

theorem refOf_any (a b : Nat) (w : World) (ha : Num a) (hb : Num b) : Gives 24 #[.float .f32 a, .float .f32 b] w (numV a b) := by
  go_enter Try.func24, Try.ntmps24
  go_wp2_with (go_at_call 57; refine (bits57_any _ _ (by assumption)).mono ?_; rintro e w' ⟨rfl, rfl⟩)
  exact bodyPost_ret (v := numV a b) (by simp [results, Try.results24, go_sem]) rfl ⟨rfl, (Below.refl _ _).alloc (Nat.le_refl _) _⟩

/-- The numbers of the chapter's example. -/
def ex (j : Nat) : Nat × Nat := if j = 1 then (1065353216, 0) else (0, 0)
def exOut (j : Nat) : Nat × Nat := if j = 0 then (1065353216, 0) else if j = 1 then (0, 3212836864) else if j = 2 then (3212836864, 0) else (0, 1065353216)

theorem sumD_of {a b s d : Nat × Nat} (h1 : Ieee.single.add a.1 b.1 = some s.1) (h2 : Ieee.single.add a.2 b.2 = some s.2) (h3 : Ieee.single.sub a.1 b.1 = some d.1) (h4 : Ieee.single.sub a.2 b.2 = some d.2) : SumD a b s d := ⟨h1, h2, h3, h4⟩

theorem four_ex : Four ex exOut (0, 0) (0, 0) (1065353216, 0) (1065353216, 0) where
  even := ⟨(0, 0), fun w => product_any 1065353216 0 0 0 0 0 0 0 0 0 w (by kernel_rfl) (by kernel_rfl) (by kernel_rfl) (by kernel_rfl) (by kernel_rfl) (by kernel_rfl), sumD_of (by kernel_rfl) (by kernel_rfl) (by kernel_rfl) (by kernel_rfl)⟩
  odd := ⟨(0, 0), fun w => product_any 1065353216 0 0 0 0 0 0 0 0 0 w (by kernel_rfl) (by kernel_rfl) (by kernel_rfl) (by kernel_rfl) (by kernel_rfl) (by kernel_rfl), sumD_of (by kernel_rfl) (by kernel_rfl) (by kernel_rfl) (by kernel_rfl)⟩
  first := ⟨(1065353216, 0), fun w => product_any 1065353216 0 1065353216 0 1065353216 0 0 0 1065353216 0 w (by kernel_rfl) (by kernel_rfl) (by kernel_rfl) (by kernel_rfl) (by kernel_rfl) (by kernel_rfl), sumD_of (by kernel_rfl) (by kernel_rfl) (by kernel_rfl) (by kernel_rfl)⟩
  second := ⟨(0, 3212836864), fun w => product_any 0 3212836864 1065353216 0 0 2147483648 0 3212836864 0 3212836864 w (by kernel_rfl) (by kernel_rfl) (by kernel_rfl) (by kernel_rfl) (by kernel_rfl) (by kernel_rfl), sumD_of (by kernel_rfl) (by kernel_rfl) (by kernel_rfl) (by kernel_rfl)⟩

theorem words : floatOfInt .f32 0 = 0 ∧ floatOfInt .f32 1 = 1065353216 ∧ floatOfInt .f32 2 = 1073741824 ∧ floatOfInt .f32 3 = 1077936128 ∧ floatOfInt .f32 4 = 1082130432 ∧ floatOfInt .f32 5 = 1084227584 ∧ floatOfInt .f32 (-1) = 3212836864 :=
  ⟨by kernel_rfl, by kernel_rfl, by kernel_rfl, by kernel_rfl, by kernel_rfl, by kernel_rfl, by kernel_rfl⟩
theorem num0 : Num 0 := num_of (by kernel_rfl)
theorem num1 : Num 1065353216 := num_of (by kernel_rfl)
theorem numm : Num 3212836864 := num_of (by kernel_rfl)
theorem num2 : Num 1073741824 := num_of (by kernel_rfl)
theorem num3 : Num 1077936128 := num_of (by kernel_rfl)
theorem num4 : Num 1082130432 := num_of (by kernel_rfl)
theorem num5 : Num 1084227584 := num_of (by kernel_rfl)
theorem mk00 (w : World) : Gives 39 #[.int .i64 0, .int .i64 0] w (numV 0 0) := by have h := mk_any 0 0 w; rw [words.1] at h; exact h num0 num0
theorem mk10 (w : World) : Gives 39 #[.int .i64 1, .int .i64 0] w (numV 1065353216 0) := by have h := mk_any 1 0 w; rw [words.1, words.2.1] at h; exact h num1 num0
theorem mk12 (w : World) : Gives 39 #[.int .i64 1, .int .i64 2] w (numV 1065353216 1073741824) := by have h := mk_any 1 2 w; rw [words.2.1, words.2.2.1] at h; exact h num1 num2
theorem mk3m (w : World) : Gives 39 #[.int .i64 3, .int .i64 (-1)] w (numV 1077936128 3212836864) := by have h := mk_any 3 (-1) w; rw [words.2.2.2.1, words.2.2.2.2.2.2] at h; exact h num3 numm
theorem mk55 (w : World) : Gives 39 #[.int .i64 5, .int .i64 5] w (numV 1084227584 1084227584) := by have h := mk_any 5 5 w; rw [words.2.2.2.2.2.1] at h; exact h num5 num5
theorem mk34 (w : World) : Gives 39 #[.int .i64 3, .int .i64 4] w (numV 1077936128 1082130432) := by have h := mk_any 3 4 w; rw [words.2.2.2.1, words.2.2.2.2.1] at h; exact h num3 num4
theorem mul55 (w : World) : Gives 15 #[numV 1065353216 1073741824, numV 1077936128 3212836864] w (numV 1084227584 1084227584) :=
  mul_any _ _ _ _ _ _ w num1 num2 num3 numm num5 num5 fun w => product_any _ _ _ _ 1077936128 3221225472 3212836864 1086324736 _ _ w (by kernel_rfl) (by kernel_rfl) (by kernel_rfl) (by kernel_rfl) (by kernel_rfl) (by kernel_rfl)

theorem eq32 (a b c d : Int) (w : World) : (Op.equalIn 10000 32 (.agg #[.int .u32 a, .int .u32 b]) (.agg #[.int .u32 c, .int .u32 d])).run Try.prog w = .ok (a == c && b == d) w := by
  have hS : Try.prog.underlying 32 = some (.struct (Try.prog.fieldsOf 32)) := by kernel_rfl
  rw [show (10000 : Nat) = 9999 + 1 from rfl, run_equalIn_struct w 9999 32 _ _ hS (by kernel_rfl)]
  simp only [Program.fieldsOf, Try.underlying32]
  go_simp
  by_cases h1 : a = c <;> by_cases h2 : b = d <;> simp [h1, h2]

theorem info38 : (Try.prog.info? 38).map (fun i => (i.zero, i.size, i.bytes)) = some (some (.agg #[.int .u32 0, .int .u32 0]), 2, 8) := by kernel_rfl
theorem given4 (w : World) : (Instr.buildSlice 24 4 #[(0, numV 0 0), (1, numV 1065353216 0), (2, numV 0 0), (3, numV 0 0)]).run Try.prog w = .ok (.slice (some ⟨w.heap.size, 0, none⟩) 4 4)
    (w.alloc (.cells #[.int .u32 0, .int .u32 0, .int .u32 1065353216, .int .u32 0, .int .u32 0, .int .u32 0, .int .u32 0, .int .u32 0] 32)) := by
  obtain ⟨i0, hi, hz0, hz1, hz2⟩ := info_parts info32
  exact run_buildSlice w 24 32 4 _ _ i0 _ Try.underlying24 hi hz0 (by rw [hz1]; decide) (by rw [hz1]; decide) (by rw [hz1]; kernel_rfl)
theorem want4 (w : World) : (Instr.buildSlice 27 4 #[(0, numV 1065353216 0), (1, numV 0 3212836864), (2, numV 3212836864 0), (3, numV 0 1065353216)]).run Try.prog w = .ok (.slice (some ⟨w.heap.size, 0, none⟩) 4 4)
    (w.alloc (.cells #[.int .u32 1065353216, .int .u32 0, .int .u32 0, .int .u32 3212836864, .int .u32 3212836864, .int .u32 0, .int .u32 0, .int .u32 1065353216] 38)) := by
  obtain ⟨i0, hi, hz0, hz1, hz2⟩ := info_parts info38
  exact run_buildSlice w 27 38 4 _ _ i0 _ Try.underlying27 hi hz0 (by rw [hz1]; decide) (by rw [hz1]; decide) (by rw [hz1]; kernel_rfl)

end Go.Proofs.Ytmhfdjognikilaa
