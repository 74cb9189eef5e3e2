/- Layer 16 (numeric), any words of F32: the reference's numbers, sums and products. -/
import Derived.Test.YtmhfdjognikilaaPolA
namespace Go.Proofs.Ytmhfdjognikilaa
open Go.RowKit Go.Shelf

attribute [local go_sem] run_mul run_add run_sub

theorem rf_any (b : Nat) (w : World) : Is 54 #[.int .u32 b] w (.float .f32 b) := by
  go_enter Try.func54, Try.ntmps54
  go_wp2
  go_ret
  exact ⟨rfl, rfl⟩

/-- A call that gives a word, but for the bits of a NaN, and makes nothing. -/
abbrev Word (f : FuncId) (args : Array Value) (w : World) (x : Nat) : Prop := Calls Try.prog f args w fun e w' => ∃ r, e = .returned (.float .f32 r) ∧ cn r = x ∧ Below w.heap.size w w'

theorem oa : BinOp.add = .add ∨ BinOp.add = .sub ∨ BinOp.add = .mul := by simp
theorem os : BinOp.sub = .add ∨ BinOp.sub = .sub ∨ BinOp.sub = .mul := by simp
theorem om : BinOp.mul = .add ∨ BinOp.mul = .sub ∨ BinOp.mul = .mul := by simp

theorem plus_any {x y a b : Nat} (hx : cn x = a) (hy : cn y = b) (w : World) : Word 53 #[.float .f32 x, .float .f32 y] w (fadd a b) := by
  have HX := Lib.hid hx
  have HY := Lib.hid hy
  clear hx hy
  go_enter Try.func53, Try.ntmps53
  go_wp2
  go_ret
  exact ⟨_, rfl, fop_of oa HX.out HY.out _, below_drewN (Below.refl _ _) _⟩
theorem minus_any {x y a b : Nat} (hx : cn x = a) (hy : cn y = b) (w : World) : Word 55 #[.float .f32 x, .float .f32 y] w (fsub a b) := by
  have HX := Lib.hid hx
  have HY := Lib.hid hy
  clear hx hy
  go_enter Try.func55, Try.ntmps55
  go_wp2
  go_ret
  exact ⟨_, rfl, fop_of os HX.out HY.out _, below_drewN (Below.refl _ _) _⟩
theorem times_any {x y a b : Nat} (hx : cn x = a) (hy : cn y = b) (w : World) : Word 56 #[.float .f32 x, .float .f32 y] w (fmul a b) := by
  have HX := Lib.hid hx
  have HY := Lib.hid hy
  clear hx hy
  go_enter Try.func56, Try.ntmps56
  go_wp2
  go_ret
  exact ⟨_, rfl, fop_of om HX.out HY.out _, below_drewN (Below.refl _ _) _⟩

theorem rbits_any (b : Nat) (w : World) : Is 57 #[.float .f32 b] w (.int .u32 (cn b)) := by
  by_cases h : Num b
  · rw [cn_num h]
    have h1 : (FloatKind.f32.format.order b b != some .eq) = false := by have : FloatKind.f32.format.order b b = some .eq := h; simp [this]
    clear h
    go_enter Try.func57, Try.ntmps57
    go_wp2
    go_ret
    exact ⟨rfl, rfl⟩
  · rw [cn_nan h]
    have h1 : (FloatKind.f32.format.order b b != some .eq) = true := by have : ¬ FloatKind.f32.format.order b b = some .eq := h; simpa using this
    clear h
    go_enter Try.func57, Try.ntmps57
    go_wp2
    go_ret
    exact ⟨rfl, rfl⟩

theorem rof_any (a b : Nat) (w : World) : Gives 24 #[.float .f32 a, .float .f32 b] w (numV (cn a) (cn b)) := by
  go_enter Try.func24, Try.ntmps24
  go_wp2_with (go_at_call 57; refine (rbits_any _ _).mono ?_; rintro e w' ⟨rfl, rfl⟩)
  exact bodyPost_ret (v := numV (cn a) (cn b)) (by simp [results, Try.results24, go_sem]) rfl ⟨rfl, (Below.refl _ _).alloc (Nat.le_refl _) _⟩
theorem rof_to {a b x y : Nat} (ha : cn a = x) (hb : cn b = y) (w : World) : Gives 24 #[.float .f32 a, .float .f32 b] w (numV x y) := by
  subst ha hb
  exact rof_any a b w

theorem Two.start38 {a b c d : Nat} {w : World} : Two w a b c d (((w.alloc (.cells #[.int .u32 a, .int .u32 b] 38)).alloc (.cells #[.int .u32 c, .int .u32 d] 38)).alloc (.cells #[.int .u32 0, .int .u32 0] 38)).drew := by
  refine ⟨((((Below.refl _ _).alloc (Nat.le_refl _) _).alloc (by simp) _).alloc (by simp; omega) _).drew, ?_⟩
  simp [at0, go_sem]

theorem radd_any (a b c d : Nat) (w : World) : Gives 19 #[numV a b, numV c d] w (numV (fadd (cn a) (cn c)) (fadd (cn b) (cn d))) := by
  go_enter Try.func19, Try.ntmps19
  go_wp2_with fail
  go_region_held3 (fun w' => Below w.heap.size w w' ∧ w.heap.size + 3 ≤ w'.heap.size ∧ w'.cell? ⟨w.heap.size, 0, none⟩ = some (.int .u32 a) ∧ w'.cell? ⟨w.heap.size, 1, none⟩ = some (.int .u32 b) ∧ w'.cell? ⟨w.heap.size + 1, 0, none⟩ = some (.int .u32 c) ∧ w'.cell? ⟨w.heap.size + 1, 1, none⟩ = some (.int .u32 d) ∧
      w'.cell? ⟨w.heap.size + 2, 0, none⟩ = some (at0 w' ⟨w.heap.size + 2, 0, none⟩) ∧ w'.cell? ⟨w.heap.size + 2, 1, none⟩ = some (at0 w' ⟨w.heap.size + 2, 1, none⟩) ∧ w'.frozen? ⟨w.heap.size + 2, 0, none⟩ = false ∧ w'.frozen? ⟨w.heap.size + 2, 1, none⟩ = false)
    (first | assumption | exact Two.start38 | exact Two.keep (by assumption) (by assumption) | exact Two.drew (by assumption) | exact Two.stored _ _ (by assumption))
    (first
      | (go_at_call 54; refine (rf_any _ _).mono ?_; rintro e w' ⟨rfl, rfl⟩)
      | (go_at_call 53; refine (plus_any rfl rfl _).mono ?_; rintro e w' ⟨r, rfl, hr, hB⟩)
      | (go_at_call 24; refine (rof_to (by assumption) (by assumption) _).mono ?_; rintro e w' ⟨rfl, hB⟩; have hk : Two w a b c d w' := Two.keep hB (by assumption)))
  all_goals go_wp2
  all_goals
    have hB' := (Two.stored (.int .u32 (fadd (cn a) (cn c))) (.int .u32 (fadd (cn b) (cn d))) hk).1
    obtain ⟨q5, q6⟩ := Two.read (.int .u32 (fadd (cn a) (cn c))) (.int .u32 (fadd (cn b) (cn d))) hk
    clear hk
    exact bodyPost_ret (v := numV _ _) (by simp [results, Try.results19, go_sem, q5, q6]) rfl ⟨rfl, hB'⟩

theorem Two.drewN {W : World} {a b c d : Nat} {w : World} (n : Nat) (h : Two W a b c d w) : Two W a b c d (w.drewN n) := h.keep (below_drewN (Below.refl _ _) _)
theorem rmul_any (a b c d : Nat) (w : World) : Gives 21 #[numV a b, numV c d] w (numV (fsub (fmul (cn a) (cn c)) (fmul (cn b) (cn d))) (fadd (fmul (cn a) (cn d)) (fmul (cn b) (cn c)))) := by
  go_enter Try.func21, Try.ntmps21
  have hT0 : Two w a b c d (((w.alloc (.cells #[.int .u32 a, .int .u32 b] 38)).alloc (.cells #[.int .u32 c, .int .u32 d] 38)).alloc (.cells #[.int .u32 0, .int .u32 0] 38)) := by
    refine ⟨((Below.refl _ _).alloc (Nat.le_refl _) _).alloc (by simp) _ |>.alloc (by simp; omega) _, ?_⟩
    simp [at0, go_sem]
  go_wp2_with fail
  go_quiet (((go_at_call 54; exact Calls.quiet_of_same ((rf_any _ _).mono fun _ _ h => ⟨h.1, h.2.symm⟩))))
  have hT := hT0.drewN nq
  clear hT0
  generalize hW : World.drewN _ nq = W at hT ⊢
  clear hW
  go_wp2_with (first
      | (go_at_call 56; refine (times_any rfl rfl _).mono ?_; rintro e w' ⟨r, rfl, hr, hB⟩; replace hT := hT.keep hB; clear hB)
      | (go_at_call 55; refine (minus_any (by assumption) (by assumption) _).mono ?_; rintro e w' ⟨r, rfl, hr, hB⟩; replace hT := hT.keep hB; clear hB)
      | (go_at_call 53; refine (plus_any (by assumption) (by assumption) _).mono ?_; rintro e w' ⟨r, rfl, hr, hB⟩; replace hT := hT.keep hB; clear hB)
      | (go_at_call 24; refine (rof_to (by assumption) (by assumption) _).mono ?_; rintro e w' ⟨rfl, hB⟩; replace hT := hT.keep hB; clear hB; have hk := hT; obtain ⟨-, -, -, -, -, -, h5, h6, h7, h8⟩ := hT))
  obtain ⟨q5, q6⟩ := Two.read (.int .u32 (fsub (fmul (cn a) (cn c)) (fmul (cn b) (cn d)))) (.int .u32 (fadd (fmul (cn a) (cn d)) (fmul (cn b) (cn c)))) hk
  have hB' := (Two.stored (.int .u32 (fsub (fmul (cn a) (cn c)) (fmul (cn b) (cn d)))) (.int .u32 (fadd (fmul (cn a) (cn d)) (fmul (cn b) (cn c)))) hk).1
  clear hk
  exact bodyPost_ret (v := numV _ _) (by simp [results, Try.results21, go_sem, q5, q6]) rfl ⟨rfl, hB'⟩
end Go.Proofs.Ytmhfdjognikilaa
