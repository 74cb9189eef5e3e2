/- Layer 16 (numeric): what the package's functions on numbers compute: one contract a function, at words that are no NaN. -/
import Derived.Test.YtmhfdjognikilaaProg
import Derived.Test.YtmhfdjognikilaaFloA
import Derived.WalkKit
import Derived.WalkLawsBesides
import Derived.Laws.FloatArith
import Derived.Laws.Cover3
import Derived.Laws.ComplexArith
import Derived.Laws.Externs
import Derived.KernelRfl
import Derived.Deep.Draws
import Derived.Deep.QuietTactic
import Derived.BigQuiet
import Derived.Deep.RegionHeld3
namespace Go.Proofs.Ytmhfdjognikilaa
open Go.RowKit

@[go_sem] theorem run60 (b : Nat) (w : World) : (callFunc 60 #[.int .u32 b]).run Try.prog w = .ok (.value (.float .f32 b)) w := by
  rw [run_callFunc_extern (e := Extern.MathFloatBits.float32frombits) Try.func60 (by kernel_rfl) (by kernel_rfl) (by kernel_rfl) (by kernel_rfl)]
  rfl
@[go_sem] theorem run44 (b : Nat) (w : World) : (callFunc 44 #[.float .f32 b]).run Try.prog w = .ok (.value (.int .u32 b)) w := by
  rw [run_callFunc_extern (e := Extern.MathFloatBits.float32bits) Try.func44 (by kernel_rfl) (by kernel_rfl) (by kernel_rfl) (by kernel_rfl)]
  rfl

/-- A word that is no NaN. -/
def Num (b : Nat) : Prop := Ieee.single.order b b = some .eq

theorem float_any (b : Nat) (w : World) (h : Num b) : Calls Try.prog 46 #[.int .u32 b] w fun e w' => e = .returned (.float .f32 b) ∧ w = w' := by
  have h1 : (FloatKind.f32.format.order b b != some .eq) = false := by have : FloatKind.f32.format.order b b = some .eq := h; simp [this]
  clear h
  go_enter Try.func46, Try.ntmps46
  go_wp2
  go_ret
  exact ⟨rfl, rfl⟩

theorem bitsOf_any (b : Nat) (w : World) (h : Num b) : Calls Try.prog 52 #[.float .f32 b] w fun e w' => e = .returned (.int .u32 b) ∧ w = w' := by
  have h1 : (FloatKind.f32.format.order b b != some .eq) = false := by have : FloatKind.f32.format.order b b = some .eq := h; simp [this]
  clear h
  go_enter Try.func52, Try.ntmps52
  go_wp2
  go_ret
  exact ⟨rfl, rfl⟩

/-- A contract that draws nothing, met in a quiet region. -/
theorem quietSame {P : Program} {f : FuncId} {args : Array Value} {w : World} {n : Nat} {v : Value}
    (h : Calls P f args (w.drewN n) fun e w' => e = .returned v ∧ w.drewN n = w') : Calls P f args (w.drewN n) fun e w'' => e = .returned v ∧ ∃ m, w'' = w.drewN m :=
  Calls.quiet_of_same (h.mono fun _ _ h => ⟨h.1, h.2.symm⟩)

/-- A number of the package: its two words. -/
abbrev numV (x y : Nat) : Value := .agg #[.int .u32 x, .int .u32 y]


/-- What a call that makes memory leaves: a value, and all that was there before as it was. -/
abbrev Gives (f : FuncId) (args : Array Value) (w : World) (v : Value) : Prop := Calls Try.prog f args w fun e w' => e = .returned v ∧ Below w.heap.size w w'
/-- What a call that only computes leaves. -/
abbrev Is (f : FuncId) (args : Array Value) (w : World) (v : Value) : Prop := Calls Try.prog f args w fun e w' => e = .returned v ∧ w = w'

theorem parts_any (a b : Nat) (w : World) (ha : Num a) (hb : Num b) : Gives 11 #[numV a b] w (.tuple #[.float .f32 a, .float .f32 b]) := by
  go_enter Try.func11, Try.ntmps11
  go_wp2_with fail
  go_quiet (((go_at_call 46; exact quietSame (float_any _ _ (by assumption)))))
  go_wp2
  go_ret2
  exact ⟨rfl, below_drewN ((Below.refl _ _).alloc (Nat.le_refl _) _) _⟩

theorem value_any (a b : Nat) (w : World) (ha : Num a) (hb : Num b) : Gives 48 #[numV a b] w (.complex .f32 a b) := by
  go_enter Try.func48, Try.ntmps48
  go_wp2_with (go_at_call 11; refine (parts_any _ _ _ ha hb).mono ?_; rintro e w' ⟨rfl, hB⟩)
  go_ret
  exact ⟨rfl, ((Below.refl _ _).alloc (Nat.le_refl _) _).trans (hB.mono (by simp))⟩

theorem of_any (a b : Nat) (w : World) (ha : Num a) (hb : Num b) : Gives 18 #[.float .f32 a, .float .f32 b] w (numV a b) := by
  go_enter Try.func18, Try.ntmps18
  go_wp2_with (go_at_call 52; refine (bitsOf_any _ _ (by assumption)).mono ?_; rintro e w' ⟨rfl, rfl⟩)
  exact bodyPost_ret (v := numV a b) (by simp [results, Try.results18, go_sem]) rfl ⟨rfl, (Below.refl _ _).alloc (Nat.le_refl _) _⟩

/-- After such a call old cells read as before. -/
theorem bcell {W w1 : World} (hb : Below W.heap.size W w1) : (∀ b o, b < W.heap.size → w1.cell? ⟨b, o, none⟩ = W.cell? ⟨b, o, none⟩) ∧ (∀ b o, b < W.heap.size → w1.frozen? ⟨b, o, none⟩ = W.frozen? ⟨b, o, none⟩) :=
  ⟨fun b o h => hb.cell (p := ⟨b, o, none⟩) h, fun b o h => hb.frozen (p := ⟨b, o, none⟩) h⟩

theorem number_any (a b : Nat) (w : World) (ha : Num a) (hb : Num b) : Gives 47 #[.complex .f32 a b] w (numV a b) := by
  go_enter Try.func47, Try.ntmps47
  go_wp2_with (go_at_call 18; refine (of_any _ _ _ ha hb).mono ?_; rintro e w' ⟨rfl, hB⟩; obtain ⟨hc, hf⟩ := bcell hB)
  exact bodyPost_ret (v := numV a b) (by simp [results, Try.results47, go_sem, hc]) rfl ⟨rfl, ((((Below.refl _ _).alloc (Nat.le_refl _) _).trans (hB.mono (by simp))).setCell (Nat.le_refl _) _).setCell (Nat.le_refl _) _⟩

theorem product_any (a b c d x1 x2 x3 x4 re im : Nat) (w : World) (h1 : Ieee.single.mul a c = some x1) (h2 : Ieee.single.mul b d = some x2) (h3 : Ieee.single.sub x1 x2 = some re)
    (h4 : Ieee.single.mul a d = some x3) (h5 : Ieee.single.mul b c = some x4) (h6 : Ieee.single.add x3 x4 = some im) : Is 49 #[.complex .f32 a b, .complex .f32 c d] w (.complex .f32 re im) := by
  have e1 : ∀ t w, (binOp .mul t (.float .f32 a) (.float .f32 c)).run Try.prog w = .ok (.float .f32 x1) w := fun t w => run_float_arith w .mul t .f32 _ _ _ h1
  have e2 : ∀ t w, (binOp .mul t (.float .f32 b) (.float .f32 d)).run Try.prog w = .ok (.float .f32 x2) w := fun t w => run_float_arith w .mul t .f32 _ _ _ h2
  have e3 : ∀ t w, (binOp .sub t (.float .f32 x1) (.float .f32 x2)).run Try.prog w = .ok (.float .f32 re) w := fun t w => run_float_arith w .sub t .f32 _ _ _ h3
  have e4 : ∀ t w, (binOp .mul t (.float .f32 a) (.float .f32 d)).run Try.prog w = .ok (.float .f32 x3) w := fun t w => run_float_arith w .mul t .f32 _ _ _ h4
  have e5 : ∀ t w, (binOp .mul t (.float .f32 b) (.float .f32 c)).run Try.prog w = .ok (.float .f32 x4) w := fun t w => run_float_arith w .mul t .f32 _ _ _ h5
  have e6 : ∀ t w, (binOp .add t (.float .f32 x3) (.float .f32 x4)).run Try.prog w = .ok (.float .f32 im) w := fun t w => run_float_arith w .add t .f32 _ _ _ h6
  clear h1 h2 h3 h4 h5 h6
  go_enter Try.func49, Try.ntmps49
  go_wp2_with (simp only [e1, e2, e3, e4, e5, e6])
  go_ret
  exact ⟨rfl, rfl⟩

/-- What a cell holds. -/
def at0 (w : World) (p : Addr) : Value := (w.cell? p).getD (.bool false)
/-- What a function of two numbers holds: its boxes, and room for the result. -/
abbrev Two (W : World) (a b c d : Nat) (w : World) : Prop := Below W.heap.size W w ∧ W.heap.size + 3 ≤ w.heap.size ∧ w.cell? ⟨W.heap.size, 0, none⟩ = some (.int .u32 a) ∧ w.cell? ⟨W.heap.size, 1, none⟩ = some (.int .u32 b) ∧ w.cell? ⟨W.heap.size + 1, 0, none⟩ = some (.int .u32 c) ∧ w.cell? ⟨W.heap.size + 1, 1, none⟩ = some (.int .u32 d) ∧
  w.cell? ⟨W.heap.size + 2, 0, none⟩ = some (at0 w ⟨W.heap.size + 2, 0, none⟩) ∧ w.cell? ⟨W.heap.size + 2, 1, none⟩ = some (at0 w ⟨W.heap.size + 2, 1, none⟩) ∧ w.frozen? ⟨W.heap.size + 2, 0, none⟩ = false ∧ w.frozen? ⟨W.heap.size + 2, 1, none⟩ = false
theorem Two.keep {W : World} {a b c d : Nat} {w w' : World} (hB : Below w.heap.size w w') (h : Two W a b c d w) : Two W a b c d w' := by
  obtain ⟨hb, h0, h1, h2, h3, h4, h5, h6, h7, h8⟩ := h
  have hs := hB.size
  exact ⟨hb.trans (hB.mono (by omega)), by omega, by rw [hB.cell (p := ⟨W.heap.size, 0, none⟩) (by simp; omega)]; exact h1, by rw [hB.cell (p := ⟨W.heap.size, 1, none⟩) (by simp; omega)]; exact h2, by rw [hB.cell (p := ⟨W.heap.size + 1, 0, none⟩) (by simp; omega)]; exact h3,
    by rw [hB.cell (p := ⟨W.heap.size + 1, 1, none⟩) (by simp; omega)]; exact h4, by rw [at0, hB.cell (p := ⟨W.heap.size + 2, 0, none⟩) (by simp; omega)]; exact h5, by rw [at0, hB.cell (p := ⟨W.heap.size + 2, 1, none⟩) (by simp; omega)]; exact h6,
    by rw [hB.frozen (p := ⟨W.heap.size + 2, 0, none⟩) (by simp; omega)]; exact h7, by rw [hB.frozen (p := ⟨W.heap.size + 2, 1, none⟩) (by simp; omega)]; exact h8⟩
theorem Two.start {a b c d : Nat} {w : World} : Two w a b c d (((w.alloc (.cells #[.int .u32 a, .int .u32 b] 32)).alloc (.cells #[.int .u32 c, .int .u32 d] 32)).alloc (.cells #[.int .u32 0, .int .u32 0] 32)).drew := by
  refine ⟨((((Below.refl _ _).alloc (Nat.le_refl _) _).alloc (by simp) _).alloc (by simp; omega) _).drew, ?_⟩
  simp [at0, go_sem]
theorem Two.below {W : World} {a b c d : Nat} {w : World} (h : Two W a b c d w) : Below W.heap.size W w := h.1
theorem Two.drew {W : World} {a b c d : Nat} {w : World} (h : Two W a b c d w) : Two W a b c d w.drew := ⟨h.1.drew, h.2⟩
theorem Two.stored {W : World} {a b c d : Nat} {w : World} (x y : Value) (h : Two W a b c d w) : Two W a b c d ((w.setCell ⟨W.heap.size + 1 + 1, 0, none⟩ x).setCell ⟨W.heap.size + 1 + 1, 1, none⟩ y) := by
  obtain ⟨hb, h0, h1, h2, h3, h4, h5, h6, h7, h8⟩ := h
  have q5 : (w.cell? ⟨W.heap.size + 2, 0, none⟩).isSome = true := by rw [h5]; rfl
  have q6 : (w.cell? ⟨W.heap.size + 2, 1, none⟩).isSome = true := by rw [h6]; rfl
  clear h5 h6
  refine ⟨(hb.setCell (by simp; omega) _).setCell (by simp; omega) _, ?_⟩
  simp [at0, go_sem, *]

theorem Two.read {W : World} {a b c d : Nat} {w : World} (x y : Value) (h : Two W a b c d w) :
    ((w.setCell ⟨W.heap.size + 1 + 1, 0, none⟩ x).setCell ⟨W.heap.size + 1 + 1, 1, none⟩ y).cell? ⟨W.heap.size + 1 + 1, 0, none⟩ = some x ∧
    ((w.setCell ⟨W.heap.size + 1 + 1, 0, none⟩ x).setCell ⟨W.heap.size + 1 + 1, 1, none⟩ y).cell? ⟨W.heap.size + 1 + 1, 1, none⟩ = some y := by
  obtain ⟨hb, h0, h1, h2, h3, h4, h5, h6, h7, h8⟩ := h
  have q5 : (w.cell? ⟨W.heap.size + 2, 0, none⟩).isSome = true := by rw [h5]; rfl
  have q6 : (w.cell? ⟨W.heap.size + 2, 1, none⟩).isSome = true := by rw [h6]; rfl
  clear h5 h6
  simp [go_sem, *]

theorem add_any (a b c d re im : Nat) (w : World) (ha : Num a) (hb : Num b) (hc : Num c) (hd : Num d) (hre : Num re) (him : Num im)
    (h1 : Ieee.single.add a c = some re) (h2 : Ieee.single.add b d = some im) : Gives 13 #[numV a b, numV c d] w (numV re im) := by
  have e1 : ∀ t w, (binOp .add t (.complex .f32 a b) (.complex .f32 c d)).run Try.prog w = .ok (.complex .f32 re im) w := fun t w =>
    run_complex_sum (P := Try.prog) w .add (Or.inl rfl) t .f32 a b c d re im (by simp [cSumBits, floatBits, FloatKind.format, h1, h2])
  clear h1 h2
  go_enter Try.func13, Try.ntmps13
  go_wp2_with fail
  go_region_held3 (fun w' => Below w.heap.size w w' ∧ w.heap.size + 3 ≤ w'.heap.size ∧ w'.cell? ⟨w.heap.size, 0, none⟩ = some (.int .u32 a) ∧ w'.cell? ⟨w.heap.size, 1, none⟩ = some (.int .u32 b) ∧ w'.cell? ⟨w.heap.size + 1, 0, none⟩ = some (.int .u32 c) ∧ w'.cell? ⟨w.heap.size + 1, 1, none⟩ = some (.int .u32 d) ∧
      w'.cell? ⟨w.heap.size + 2, 0, none⟩ = some (at0 w' ⟨w.heap.size + 2, 0, none⟩) ∧ w'.cell? ⟨w.heap.size + 2, 1, none⟩ = some (at0 w' ⟨w.heap.size + 2, 1, none⟩) ∧ w'.frozen? ⟨w.heap.size + 2, 0, none⟩ = false ∧ w'.frozen? ⟨w.heap.size + 2, 1, none⟩ = false)
    (first | assumption | exact Two.start | exact Two.keep (by assumption) (by assumption) | exact Two.drew (by assumption) | exact Two.stored _ _ (by assumption))
    (first
      | (go_at_call 48; refine (value_any _ _ _ (by assumption) (by assumption)).mono ?_; rintro e w' ⟨rfl, hB⟩)
      | (go_at_call 47; refine (number_any _ _ _ (by assumption) (by assumption)).mono ?_; rintro e w' ⟨rfl, hB⟩; have hk : Two w a b c d w' := Two.keep hB (by assumption)))
  all_goals go_wp2
  all_goals
    have hB' := (Two.stored (.int .u32 re) (.int .u32 im) hk).1
    obtain ⟨q5, q6⟩ := Two.read (.int .u32 re) (.int .u32 im) hk
    clear hk
    exact bodyPost_ret (v := numV re im) (by simp [results, Try.results13, go_sem, q5, q6]) rfl ⟨rfl, hB'⟩

theorem sub_any (a b c d re im : Nat) (w : World) (ha : Num a) (hb : Num b) (hc : Num c) (hd : Num d) (hre : Num re) (him : Num im)
    (h1 : Ieee.single.sub a c = some re) (h2 : Ieee.single.sub b d = some im) : Gives 14 #[numV a b, numV c d] w (numV re im) := by
  have e1 : ∀ t w, (binOp .sub t (.complex .f32 a b) (.complex .f32 c d)).run Try.prog w = .ok (.complex .f32 re im) w := fun t w =>
    run_complex_sum (P := Try.prog) w .sub (Or.inr rfl) t .f32 a b c d re im (by simp [cSumBits, floatBits, FloatKind.format, h1, h2])
  clear h1 h2
  go_enter Try.func14, Try.ntmps14
  go_wp2_with fail
  go_region_held3 (fun w' => Below w.heap.size w w' ∧ w.heap.size + 3 ≤ w'.heap.size ∧ w'.cell? ⟨w.heap.size, 0, none⟩ = some (.int .u32 a) ∧ w'.cell? ⟨w.heap.size, 1, none⟩ = some (.int .u32 b) ∧ w'.cell? ⟨w.heap.size + 1, 0, none⟩ = some (.int .u32 c) ∧ w'.cell? ⟨w.heap.size + 1, 1, none⟩ = some (.int .u32 d) ∧
      w'.cell? ⟨w.heap.size + 2, 0, none⟩ = some (at0 w' ⟨w.heap.size + 2, 0, none⟩) ∧ w'.cell? ⟨w.heap.size + 2, 1, none⟩ = some (at0 w' ⟨w.heap.size + 2, 1, none⟩) ∧ w'.frozen? ⟨w.heap.size + 2, 0, none⟩ = false ∧ w'.frozen? ⟨w.heap.size + 2, 1, none⟩ = false)
    (first | assumption | exact Two.start | exact Two.keep (by assumption) (by assumption) | exact Two.drew (by assumption) | exact Two.stored _ _ (by assumption))
    (first
      | (go_at_call 48; refine (value_any _ _ _ (by assumption) (by assumption)).mono ?_; rintro e w' ⟨rfl, hB⟩)
      | (go_at_call 47; refine (number_any _ _ _ (by assumption) (by assumption)).mono ?_; rintro e w' ⟨rfl, hB⟩; have hk : Two w a b c d w' := Two.keep hB (by assumption)))
  all_goals go_wp2
  all_goals
    have hB' := (Two.stored (.int .u32 re) (.int .u32 im) hk).1
    obtain ⟨q5, q6⟩ := Two.read (.int .u32 re) (.int .u32 im) hk
    clear hk
    exact bodyPost_ret (v := numV re im) (by simp [results, Try.results14, go_sem, q5, q6]) rfl ⟨rfl, hB'⟩

theorem mul_any (a b c d re im : Nat) (w : World) (ha : Num a) (hb : Num b) (hc : Num c) (hd : Num d) (hre : Num re) (him : Num im)
    (hP : ∀ w, Is 49 #[.complex .f32 a b, .complex .f32 c d] w (.complex .f32 re im)) : Gives 15 #[numV a b, numV c d] w (numV re im) := by
  go_enter Try.func15, Try.ntmps15
  go_wp2_with fail
  go_region_held3 (fun w' => Below w.heap.size w w' ∧ w.heap.size + 3 ≤ w'.heap.size ∧ w'.cell? ⟨w.heap.size, 0, none⟩ = some (.int .u32 a) ∧ w'.cell? ⟨w.heap.size, 1, none⟩ = some (.int .u32 b) ∧ w'.cell? ⟨w.heap.size + 1, 0, none⟩ = some (.int .u32 c) ∧ w'.cell? ⟨w.heap.size + 1, 1, none⟩ = some (.int .u32 d) ∧
      w'.cell? ⟨w.heap.size + 2, 0, none⟩ = some (at0 w' ⟨w.heap.size + 2, 0, none⟩) ∧ w'.cell? ⟨w.heap.size + 2, 1, none⟩ = some (at0 w' ⟨w.heap.size + 2, 1, none⟩) ∧ w'.frozen? ⟨w.heap.size + 2, 0, none⟩ = false ∧ w'.frozen? ⟨w.heap.size + 2, 1, none⟩ = false)
    (first | assumption | exact Two.start | exact Two.keep (by assumption) (by assumption) | exact Two.drew (by assumption) | exact Two.stored _ _ (by assumption))
    (first
      | (go_at_call 48; refine (value_any _ _ _ (by assumption) (by assumption)).mono ?_; rintro e w' ⟨rfl, hB⟩)
      | (go_at_call 49; refine (hP _).mono ?_; rintro e w' ⟨rfl, rfl⟩)
      | (go_at_call 47; refine (number_any _ _ _ (by assumption) (by assumption)).mono ?_; rintro e w' ⟨rfl, hB⟩; have hk : Two w a b c d w' := Two.keep hB (by assumption)))
  all_goals go_wp2
  all_goals
    have hB' := (Two.stored (.int .u32 re) (.int .u32 im) hk).1
    obtain ⟨q5, q6⟩ := Two.read (.int .u32 re) (.int .u32 im) hk
    clear hk
    exact bodyPost_ret (v := numV re im) (by simp [results, Try.results15, go_sem, q5, q6]) rfl ⟨rfl, hB'⟩

theorem div_any (a b c d re im : Nat) (w : World) (ha : Num a) (hb : Num b) (hc : Num c) (hd : Num d) (hre : Num re) (him : Num im)
    (hP : ∀ w, Is 50 #[.complex .f32 a b, .complex .f32 c d] w (.complex .f32 re im)) : Gives 16 #[numV a b, numV c d] w (numV re im) := by
  go_enter Try.func16, Try.ntmps16
  go_wp2_with fail
  go_region_held3 (fun w' => Below w.heap.size w w' ∧ w.heap.size + 3 ≤ w'.heap.size ∧ w'.cell? ⟨w.heap.size, 0, none⟩ = some (.int .u32 a) ∧ w'.cell? ⟨w.heap.size, 1, none⟩ = some (.int .u32 b) ∧ w'.cell? ⟨w.heap.size + 1, 0, none⟩ = some (.int .u32 c) ∧ w'.cell? ⟨w.heap.size + 1, 1, none⟩ = some (.int .u32 d) ∧
      w'.cell? ⟨w.heap.size + 2, 0, none⟩ = some (at0 w' ⟨w.heap.size + 2, 0, none⟩) ∧ w'.cell? ⟨w.heap.size + 2, 1, none⟩ = some (at0 w' ⟨w.heap.size + 2, 1, none⟩) ∧ w'.frozen? ⟨w.heap.size + 2, 0, none⟩ = false ∧ w'.frozen? ⟨w.heap.size + 2, 1, none⟩ = false)
    (first | assumption | exact Two.start | exact Two.keep (by assumption) (by assumption) | exact Two.drew (by assumption) | exact Two.stored _ _ (by assumption))
    (first
      | (go_at_call 48; refine (value_any _ _ _ (by assumption) (by assumption)).mono ?_; rintro e w' ⟨rfl, hB⟩)
      | (go_at_call 50; refine (hP _).mono ?_; rintro e w' ⟨rfl, rfl⟩)
      | (go_at_call 47; refine (number_any _ _ _ (by assumption) (by assumption)).mono ?_; rintro e w' ⟨rfl, hB⟩; have hk : Two w a b c d w' := Two.keep hB (by assumption)))
  all_goals go_wp2
  all_goals
    have hB' := (Two.stored (.int .u32 re) (.int .u32 im) hk).1
    obtain ⟨q5, q6⟩ := Two.read (.int .u32 re) (.int .u32 im) hk
    clear hk
    exact bodyPost_ret (v := numV re im) (by simp [results, Try.results16, go_sem, q5, q6]) rfl ⟨rfl, hB'⟩

theorem power_any (c d x1 x2 n : Nat) (w : World) (h1 : Ieee.single.mul c c = some x1) (h2 : Ieee.single.mul d d = some x2) (h3 : Ieee.single.add x1 x2 = some n) : Is 75 #[.complex .f32 c d] w (.float .f32 n) := by
  have e1 : ∀ t w, (binOp .mul t (.float .f32 c) (.float .f32 c)).run Try.prog w = .ok (.float .f32 x1) w := fun t w => run_float_arith w .mul t .f32 _ _ _ h1
  have e2 : ∀ t w, (binOp .mul t (.float .f32 d) (.float .f32 d)).run Try.prog w = .ok (.float .f32 x2) w := fun t w => run_float_arith w .mul t .f32 _ _ _ h2
  have e3 : ∀ t w, (binOp .add t (.float .f32 x1) (.float .f32 x2)).run Try.prog w = .ok (.float .f32 n) w := fun t w => run_float_arith w .add t .f32 _ _ _ h3
  clear h1 h2 h3
  go_enter Try.func75, Try.ntmps75
  go_wp2_with (simp only [e1, e2, e3])
  go_ret
  exact ⟨rfl, rfl⟩

theorem quotient_any (a b c d n x1 x2 x3 y1 y2 y3 re im : Nat) (w : World) (hn : ∀ w, Is 75 #[.complex .f32 c d] w (.float .f32 n))
    (h1 : Ieee.single.mul a c = some x1) (h2 : Ieee.single.mul b d = some x2) (h3 : Ieee.single.add x1 x2 = some x3) (h4 : Ieee.single.div x3 n = some re)
    (g1 : Ieee.single.mul b c = some y1) (g2 : Ieee.single.mul a d = some y2) (g3 : Ieee.single.sub y1 y2 = some y3) (g4 : Ieee.single.div y3 n = some im) : Is 50 #[.complex .f32 a b, .complex .f32 c d] w (.complex .f32 re im) := by
  have e1 : ∀ t w, (binOp .mul t (.float .f32 a) (.float .f32 c)).run Try.prog w = .ok (.float .f32 x1) w := fun t w => run_float_arith w .mul t .f32 _ _ _ h1
  have e2 : ∀ t w, (binOp .mul t (.float .f32 b) (.float .f32 d)).run Try.prog w = .ok (.float .f32 x2) w := fun t w => run_float_arith w .mul t .f32 _ _ _ h2
  have e3 : ∀ t w, (binOp .add t (.float .f32 x1) (.float .f32 x2)).run Try.prog w = .ok (.float .f32 x3) w := fun t w => run_float_arith w .add t .f32 _ _ _ h3
  have e4 : ∀ t w, (binOp .quo t (.float .f32 x3) (.float .f32 n)).run Try.prog w = .ok (.float .f32 re) w := fun t w => run_float_arith w .quo t .f32 _ _ _ h4
  have f1 : ∀ t w, (binOp .mul t (.float .f32 b) (.float .f32 c)).run Try.prog w = .ok (.float .f32 y1) w := fun t w => run_float_arith w .mul t .f32 _ _ _ g1
  have f2 : ∀ t w, (binOp .mul t (.float .f32 a) (.float .f32 d)).run Try.prog w = .ok (.float .f32 y2) w := fun t w => run_float_arith w .mul t .f32 _ _ _ g2
  have f3 : ∀ t w, (binOp .sub t (.float .f32 y1) (.float .f32 y2)).run Try.prog w = .ok (.float .f32 y3) w := fun t w => run_float_arith w .sub t .f32 _ _ _ g3
  have f4 : ∀ t w, (binOp .quo t (.float .f32 y3) (.float .f32 n)).run Try.prog w = .ok (.float .f32 im) w := fun t w => run_float_arith w .quo t .f32 _ _ _ g4
  clear h1 h2 h3 h4 g1 g2 g3 g4
  go_enter Try.func50, Try.ntmps50
  go_wp2_with (go_at_call 75; refine (hn _).mono ?_; rintro e w' ⟨rfl, rfl⟩)
  go_ret
  exact ⟨rfl, rfl⟩

theorem conjugate_any (a b c : Nat) (w : World) (h : bits .xor .u32 b 2147483648 = (c : Int)) : Is 51 #[.complex .f32 a b] w (.complex .f32 a c) := by
  go_enter Try.func51, Try.ntmps51
  go_wp2
  go_ret
  exact ⟨rfl, rfl⟩

theorem small_any (n : Int) (w : World) (h : -32768 ≤ n ∧ n ≤ 32767) : Is 40 #[.int .i16 n] w (.int .i64 (n.tmod 1001)) := by
  obtain ⟨h1, h2⟩ := h
  go_enter Try.func40, Try.ntmps40
  go_wp2
  go_ret
  exact ⟨rfl, rfl⟩

theorem mk_any (n m : Int) (w : World) (ha : Num (floatOfInt .f32 n)) (hb : Num (floatOfInt .f32 m)) : Gives 39 #[.int .i64 n, .int .i64 m] w (numV (floatOfInt .f32 n) (floatOfInt .f32 m)) := by
  go_enter Try.func39, Try.ntmps39
  go_wp2_with (go_at_call 18; refine (of_any _ _ _ (by assumption) (by assumption)).mono ?_; rintro e w' ⟨rfl, hB⟩; obtain ⟨hc, hf⟩ := bcell hB)
  exact bodyPost_ret (v := numV (floatOfInt .f32 n) (floatOfInt .f32 m)) (by simp [results, Try.results39, go_sem, hc]) rfl ⟨rfl, ((((Below.refl _ _).alloc (Nat.le_refl _) _).trans (hB.mono (by simp))).setCell (Nat.le_refl _) _).setCell (Nat.le_refl _) _⟩

theorem equal_any (a b c d : Nat) (w : World) (ha : Num a) (hb : Num b) (hc : Num c) (hd : Num d) (h1 : Ieee.single.order a c = some .eq) (h2 : Ieee.single.order b d = some .eq) : Gives 41 #[numV a b, numV c d] w (.bool true) := by
  have e1 : (FloatKind.f32.format.order a c == some .eq) = true := by simp [FloatKind.format, h1]
  have e2 : (FloatKind.f32.format.order b d == some .eq) = true := by simp [FloatKind.format, h2]
  clear h1 h2
  go_enter Try.func41, Try.ntmps41
  go_wp2_with (go_at_call 11; refine (parts_any _ _ _ (by assumption) (by assumption)).mono ?_; rintro e w' ⟨rfl, hB⟩; obtain ⟨hcl, hfr⟩ := bcell hB)
  rename_i w1 hB1 _ _
  have hz := hB1.size
  simp at hz
  go_ret
  exact ⟨rfl, ((((Below.refl _ _).alloc (Nat.le_refl _) _).alloc (by simp) _).trans (hB1.mono (by simp; omega))).trans (hB.mono (by omega))⟩

/-- What a function of one number holds: its box, and room for the result. -/
abbrev One (W : World) (a b : Nat) (w : World) : Prop := Below W.heap.size W w ∧ W.heap.size + 2 ≤ w.heap.size ∧ w.cell? ⟨W.heap.size, 0, none⟩ = some (.int .u32 a) ∧ w.cell? ⟨W.heap.size, 1, none⟩ = some (.int .u32 b) ∧
  w.cell? ⟨W.heap.size + 1, 0, none⟩ = some (.int .u32 0) ∧ w.cell? ⟨W.heap.size + 1, 1, none⟩ = some (.int .u32 0) ∧ w.frozen? ⟨W.heap.size + 1, 0, none⟩ = false ∧ w.frozen? ⟨W.heap.size + 1, 1, none⟩ = false
theorem One.keep {W : World} {a b : Nat} {w w' : World} (hB : Below w.heap.size w w') (h : One W a b w) : One W a b w' := by
  obtain ⟨hb, h0, h1, h2, h5, h6, h7, h8⟩ := h
  have hs := hB.size
  exact ⟨hb.trans (hB.mono (by omega)), by omega, by rw [hB.cell (p := ⟨W.heap.size, 0, none⟩) (by simp; omega)]; exact h1, by rw [hB.cell (p := ⟨W.heap.size, 1, none⟩) (by simp; omega)]; exact h2,
    by rw [hB.cell (p := ⟨W.heap.size + 1, 0, none⟩) (by simp; omega)]; exact h5, by rw [hB.cell (p := ⟨W.heap.size + 1, 1, none⟩) (by simp; omega)]; exact h6,
    by rw [hB.frozen (p := ⟨W.heap.size + 1, 0, none⟩) (by simp; omega)]; exact h7, by rw [hB.frozen (p := ⟨W.heap.size + 1, 1, none⟩) (by simp; omega)]; exact h8⟩
theorem One.start {a b : Nat} {w : World} : One w a b ((w.alloc (.cells #[.int .u32 a, .int .u32 b] 32)).alloc (.cells #[.int .u32 0, .int .u32 0] 32)) := by
  refine ⟨((Below.refl _ _).alloc (Nat.le_refl _) _).alloc (by simp) _, ?_⟩
  simp [go_sem]

theorem conj_any (a b c : Nat) (w : World) (ha : Num a) (hb : Num b) (hc : Num c) (h : bits .xor .u32 b 2147483648 = (c : Int)) : Gives 17 #[numV a b] w (numV a c) := by
  have hcj : ∀ w, Is 51 #[.complex .f32 a b] w (.complex .f32 a c) := fun w => conjugate_any a b c w h
  clear h
  have hs : One w a b _ := One.start
  go_enter Try.func17, Try.ntmps17
  go_wp2_with (first
    | (go_at_call 48; refine (value_any _ _ _ ha hb).mono ?_; rintro e w1 ⟨rfl, hB1⟩; have hk1 := One.keep hB1 hs)
    | (go_at_call 51; refine (hcj _).mono ?_; rintro e w' ⟨rfl, rfl⟩)
    | (go_at_call 47; refine (number_any _ _ _ ha hc).mono ?_; rintro e w2 ⟨rfl, hB2⟩; have hk2 := One.keep hB2 hk1; clear hk1; obtain ⟨hb2, hz2, -, -, c0, c1, f0, f1⟩ := hk2))
  exact bodyPost_ret (v := numV a c) (by simp [results, Try.results17, go_sem, c0, c1]) rfl ⟨rfl, (hb2.setCell (by simp) _).setCell (by simp) _⟩

end Go.Proofs.Ytmhfdjognikilaa
