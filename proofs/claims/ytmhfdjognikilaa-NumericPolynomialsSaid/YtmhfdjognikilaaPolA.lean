/- Layer 16 (numeric), any words of F32: what sums, differences and products of any two words are, but for the bits of a NaN; values and numbers of any words. -/
import Derived.Test.YtmhfdjognikilaaFloM
import Derived.Lib.Hide
namespace Go.Proofs.Ytmhfdjognikilaa
open Go.RowKit Go.Shelf

/-- The word 7fc00000 for each NaN; any other word as it is. -/
def cn (b : Nat) : Nat := if Ieee.single.order b b = some .eq then b else 2143289344
theorem cn_num {b : Nat} (h : Num b) : cn b = b := if_pos h
theorem cn_nan {b : Nat} (h : ¬ Num b) : cn b = 2143289344 := if_neg h
theorem not_num_nan : ¬ Num 2143289344 := by
  intro h
  have : (Ieee.single.order 2143289344 2143289344 == some .eq) = false := by kernel_rfl
  unfold Num at h
  rw [h] at this
  cases this
theorem cn_cn (b : Nat) : cn (cn b) = cn b := by
  by_cases h : Num b
  · rw [cn_num h, cn_num h]
  · rw [cn_nan h, cn_nan not_num_nan]

/-- What an operation gives, but for the bits of a NaN. -/
def fop (op : BinOp) (x y : Nat) : Nat := match floatBits op .f32 x y with | some r => cn r | none => 2143289344
def fadd := fop .add
def fsub := fop .sub
def fmul := fop .mul

/-- The word that an operation gives in a world, and how often it asks the tape. -/
def fR (op : BinOp) (x y : Nat) (w : World) : Nat := match floatBits op .f32 x y with | some r => r | none => (Question.nanBits .f32 x y).cut (w.tape w.drawn (Question.nanBits .f32 x y))
def fN (op : BinOp) (x y : Nat) : Nat := if (floatBits op .f32 x y).isSome then 0 else 1

theorem run_f (op : BinOp) (hop : op = .add ∨ op = .sub ∨ op = .mul) (t : TypeId) (x y : Nat) (w : World) : (binOp op t (.float .f32 x) (.float .f32 y)).run Try.prog w = .ok (.float .f32 (fR op x y w)) (w.drewN (fN op x y)) := by
  cases h : floatBits op .f32 x y with
  | some r =>
    have e1 : fR op x y w = r := by simp [fR, h]
    have e2 : fN op x y = 0 := by simp [fN, h]
    rw [e1, e2]
    exact run_float_arith w op t .f32 x y r h
  | none =>
    have e2 : fN op x y = 1 := by simp [fN, h]
    have e1 : fR op x y w = (Question.nanBits .f32 x y).cut (w.tape w.drawn (Question.nanBits .f32 x y)) := by simp [fR, h]
    rw [e1, e2]
    unfold floatBits at h
    rcases hop with rfl | rfl | rfl <;> simp only at h <;> simp [binOp, Op.floatArith, h, Question.forced] <;> rfl

theorem run_carith' (op : BinOp) (hop : op = .add ∨ op = .sub ∨ op = .mul) (x y : Nat) (w : World) : (Op.Complex.arith op .f32 x y).run Try.prog w = .ok (fR op x y w) (w.drewN (fN op x y)) := by
  have h := run_f op hop 0 x y w
  unfold Op.Complex.arith
  have e : (binOp op 0 (.float .f32 x) (.float .f32 y)) = Op.floatArith op .f32 x y := by rcases hop with rfl | rfl | rfl <;> rfl
  rw [e] at h
  simp [Sem.run_bind, h, Result.andThen]

theorem run_cadd (t : TypeId) (a b c d : Nat) (w : World) : (binOp .add t (.complex .f32 a b) (.complex .f32 c d)).run Try.prog w =
    .ok (.complex .f32 (fR .add a c w) (fR .add b d (w.drewN (fN .add a c)))) (w.drewN (fN .add a c + fN .add b d)) := by
  have e : (binOp .add t (.complex .f32 a b) (.complex .f32 c d)) = Op.complexOp .add .f32 a b c d := rfl
  rw [e]
  simp [Op.complexOp, run_carith' .add (Or.inl rfl)]

theorem order_self {d : Ieee.Datum} (h : ∀ s f, d ≠ .nan s f) : d.order d = some .eq := by
  cases d with
  | nan s f => exact absurd rfl (h s f)
  | infinity s => cases s <;> rfl
  | number s m e => simp [Ieee.Datum.order, compare, compareOfLessAndEq]
theorem read_nan {b : Nat} (h : ¬ Num b) : ∃ s f, Ieee.single.read b = .nan s f := by
  cases hd : Ieee.single.read b with
  | nan s f => exact ⟨s, f, rfl⟩
  | infinity s =>
    refine absurd ?_ h
    unfold Num Ieee.Format.order
    rw [hd]
    exact order_self (fun _ _ e => by cases e)
  | number s m e =>
    refine absurd ?_ h
    unfold Num Ieee.Format.order
    rw [hd]
    exact order_self (fun _ _ e => by cases e)
theorem nan_left {op : BinOp} (hop : op = .add ∨ op = .sub ∨ op = .mul) {x y : Nat} (h : ¬ Num x) : floatBits op .f32 x y = none := by
  obtain ⟨s, f, e⟩ := read_nan h
  have e' : FloatKind.f32.format.read x = .nan s f := e
  rcases hop with rfl | rfl | rfl <;> simp only [floatBits, Ieee.Format.add, Ieee.Format.sub, Ieee.Format.mul, e'] <;> rfl
theorem nan_right {op : BinOp} (hop : op = .add ∨ op = .sub ∨ op = .mul) {x y : Nat} (h : ¬ Num y) : floatBits op .f32 x y = none := by
  obtain ⟨s, f, e⟩ := read_nan h
  have e' : FloatKind.f32.format.read y = .nan s f := e
  rcases hop with rfl | rfl | rfl <;> simp only [floatBits, Ieee.Format.add, Ieee.Format.sub, Ieee.Format.mul, e'] <;> cases FloatKind.f32.format.read x <;> rfl
theorem fop_cn {op : BinOp} (hop : op = .add ∨ op = .sub ∨ op = .mul) (x y : Nat) : fop op (cn x) (cn y) = fop op x y := by
  by_cases hx : Num x
  · rw [cn_num hx]
    by_cases hy : Num y
    · rw [cn_num hy]
    · rw [cn_nan hy]
      unfold fop
      rw [nan_right hop hy, nan_right hop not_num_nan]
  · rw [cn_nan hx]
    unfold fop
    rw [nan_left hop hx, nan_left hop not_num_nan]
theorem cn_fop (op : BinOp) (x y : Nat) : cn (fop op x y) = fop op x y := by
  unfold fop
  split
  · exact cn_cn _
  · exact cn_nan not_num_nan
/-- A word that the tape gives is a NaN. -/
theorem drawn_nan (t : Nat) : ¬ Num ((t % 2) * 2 ^ 31 + 0x7f800000 + 1 + (t / 2) % (2 ^ 23 - 1)) := by
  intro h
  have hlt : (t / 2) % (2 ^ 23 - 1) < 2 ^ 23 - 1 := Nat.mod_lt _ (by decide)
  generalize hF : (t / 2) % (2 ^ 23 - 1) = F at *
  have h2 : t % 2 = 0 ∨ t % 2 = 1 := by omega
  have hr : ∃ s f, Ieee.single.read ((t % 2) * 2 ^ 31 + 0x7f800000 + 1 + F) = .nan s f := by
    have hs : Ieee.single.signWeight = 2 ^ 31 := rfl
    have hb : Ieee.single.binade = 2 ^ 23 := rfl
    have hi : Ieee.single.infRung = 255 * 2 ^ 23 := rfl
    unfold Ieee.Format.read
    simp only [hs, hb, hi]
    have e1 : ((t % 2) * 2 ^ 31 + 0x7f800000 + 1 + F) % 2 ^ 31 = 0x7f800000 + 1 + F := by omega
    rw [e1, if_neg (by omega), if_neg (by omega)]
    first
      | exact ⟨_, _, rfl⟩
      | (rw [if_neg (by omega)]; exact ⟨_, _, rfl⟩)
  obtain ⟨s, f, hd⟩ := hr
  unfold Num Ieee.Format.order at h
  rw [hd] at h
  cases h
theorem cn_fR (op : BinOp) (x y : Nat) (w : World) : cn (fR op x y w) = fop op x y := by
  unfold fR fop
  cases floatBits op .f32 x y with
  | some r => rfl
  | none => exact cn_nan (drawn_nan _)
theorem fop_of {op : BinOp} (hop : op = .add ∨ op = .sub ∨ op = .mul) {x y a b : Nat} (hx : cn x = a) (hy : cn y = b) (w : World) : cn (fR op x y w) = fop op a b := by
  rw [cn_fR, ← hx, ← hy, fop_cn hop]

/-- What a call that asks the tape leaves. -/
abbrev Asks (f : FuncId) (args : Array Value) (w : World) (Q : Value → Prop) : Prop := Calls Try.prog f args w fun e w' => ∃ v n, e = .returned v ∧ Q v ∧ w' = w.drewN n

@[go_sem] theorem run60n (w : World) : (callFunc 60 #[.int .u32 2143289344]).run Try.prog w = .ok (.value (.float .f32 2143289344)) w := run60 2143289344 w
theorem float_cn (b : Nat) (w : World) : Is 46 #[.int .u32 b] w (.float .f32 (cn b)) := by
  by_cases h : Num b
  · rw [cn_num h]; exact float_any b w h
  · rw [cn_nan h]
    have h1 : (FloatKind.f32.format.order b b != some .eq) = true := by have : ¬ FloatKind.f32.format.order b b = some .eq := h; simpa using this
    clear h
    go_enter Try.func46, Try.ntmps46
    go_wp2
    go_ret
    exact ⟨rfl, rfl⟩
theorem bitsOf_cn (b : Nat) (w : World) : Is 52 #[.float .f32 b] w (.int .u32 (cn b)) := by
  by_cases h : Num b
  · rw [cn_num h]; exact bitsOf_any b w h
  · rw [cn_nan h]
    have h1 : (FloatKind.f32.format.order b b != some .eq) = true := by have : ¬ FloatKind.f32.format.order b b = some .eq := h; simpa using this
    clear h
    go_enter Try.func52, Try.ntmps52
    go_wp2
    go_ret
    exact ⟨rfl, rfl⟩
theorem parts_cn (a b : Nat) (w : World) : Gives 11 #[numV a b] w (.tuple #[.float .f32 (cn a), .float .f32 (cn b)]) := by
  go_enter Try.func11, Try.ntmps11
  go_wp2_with fail
  go_quiet (((go_at_call 46; exact Calls.quiet_of_same ((float_cn _ _).mono fun _ _ h => ⟨h.1, h.2.symm⟩))))
  go_wp2
  go_ret2
  exact ⟨rfl, below_drewN ((Below.refl _ _).alloc (Nat.le_refl _) _) _⟩
theorem value_cn (a b : Nat) (w : World) : Gives 48 #[numV a b] w (.complex .f32 (cn a) (cn b)) := by
  go_enter Try.func48, Try.ntmps48
  go_wp2_with (go_at_call 11; refine (parts_cn _ _ _).mono ?_; rintro e w' ⟨rfl, hB⟩)
  go_ret
  exact ⟨rfl, ((Below.refl _ _).alloc (Nat.le_refl _) _).trans (hB.mono (by simp))⟩
theorem of_cn (a b : Nat) (w : World) : Gives 18 #[.float .f32 a, .float .f32 b] w (numV (cn a) (cn b)) := by
  go_enter Try.func18, Try.ntmps18
  go_wp2_with (go_at_call 52; refine (bitsOf_cn _ _).mono ?_; rintro e w' ⟨rfl, rfl⟩)
  exact bodyPost_ret (v := numV (cn a) (cn b)) (by simp [results, Try.results18, go_sem]) rfl ⟨rfl, (Below.refl _ _).alloc (Nat.le_refl _) _⟩
theorem number_cn (a b : Nat) (w : World) : Gives 47 #[.complex .f32 a b] w (numV (cn a) (cn b)) := by
  go_enter Try.func47, Try.ntmps47
  go_wp2_with (go_at_call 18; refine (of_cn _ _ _).mono ?_; rintro e w' ⟨rfl, hB⟩; obtain ⟨hc, hf⟩ := bcell hB)
  exact bodyPost_ret (v := numV (cn a) (cn b)) (by simp [results, Try.results47, go_sem, hc]) rfl ⟨rfl, ((((Below.refl _ _).alloc (Nat.le_refl _) _).trans (hB.mono (by simp))).setCell (Nat.le_refl _) _).setCell (Nat.le_refl _) _⟩

/-- Complex numbers by canonical words. -/
abbrev Wx := Nat × Nat
def wadd (x y : Wx) : Wx := (fadd x.1 y.1, fadd x.2 y.2)
def wmul (x y : Wx) : Wx := (fsub (fmul x.1 y.1) (fmul x.2 y.2), fadd (fmul x.1 y.2) (fmul x.2 y.1))
/-- Two words that are those of a complex number, but for the bits of NaNs. -/
def WV (p : Nat × Nat) (x : Wx) : Prop := cn p.1 = x.1 ∧ cn p.2 = x.2
theorem WV.can {p : Nat × Nat} {x : Wx} (h : WV p x) : cn x.1 = x.1 ∧ cn x.2 = x.2 := ⟨by rw [← h.1, cn_cn], by rw [← h.2, cn_cn]⟩

@[local go_sem] theorem run_mul (t : TypeId) (x y : Nat) (w : World) : (binOp .mul t (.float .f32 x) (.float .f32 y)).run Try.prog w = .ok (.float .f32 (fR .mul x y w)) (w.drewN (fN .mul x y)) := run_f .mul (by simp) t x y w
@[local go_sem] theorem run_add (t : TypeId) (x y : Nat) (w : World) : (binOp .add t (.float .f32 x) (.float .f32 y)).run Try.prog w = .ok (.float .f32 (fR .add x y w)) (w.drewN (fN .add x y)) := run_f .add (by simp) t x y w
@[local go_sem] theorem run_sub (t : TypeId) (x y : Nat) (w : World) : (binOp .sub t (.float .f32 x) (.float .f32 y)).run Try.prog w = .ok (.float .f32 (fR .sub x y w)) (w.drewN (fN .sub x y)) := run_f .sub (by simp) t x y w

theorem product_cn {p q : Nat × Nat} {x y : Wx} (hp : WV p x) (hq : WV q y) (w : World) : Calls Try.prog 49 #[.complex .f32 p.1 p.2, .complex .f32 q.1 q.2] w fun e w' => ∃ r : Nat × Nat, e = .returned (.complex .f32 r.1 r.2) ∧ WV r (wmul x y) ∧ ∃ n, w' = w.drewN n := by
  obtain ⟨p1, p2⟩ := p
  obtain ⟨q1, q2⟩ := q
  have HP := Lib.hid hp
  have HQ := Lib.hid hq
  clear hp hq
  go_enter Try.func49, Try.ntmps49
  go_wp2
  go_ret
  obtain ⟨h1, h2⟩ := HP.out
  obtain ⟨h3, h4⟩ := HQ.out
  have oa : BinOp.add = .add ∨ BinOp.add = .sub ∨ BinOp.add = .mul := by simp
  have os : BinOp.sub = .add ∨ BinOp.sub = .sub ∨ BinOp.sub = .mul := by simp
  have om : BinOp.mul = .add ∨ BinOp.mul = .sub ∨ BinOp.mul = .mul := by simp
  exact ⟨(_, _), rfl, ⟨fop_of os (fop_of om h1 h3 _) (fop_of om h2 h4 _) _, fop_of oa (fop_of om h1 h4 _) (fop_of om h2 h3 _) _⟩, _, rfl⟩

theorem wcadd {p q : Nat × Nat} {x y : Wx} (hp : WV p x) (hq : WV q y) (w : World) : ∃ (r : Nat × Nat) (n : Nat), (∀ t, (binOp .add t (.complex .f32 p.1 p.2) (.complex .f32 q.1 q.2)).run Try.prog w = .ok (.complex .f32 r.1 r.2) (w.drewN n)) ∧ WV r (wadd x y) := by
  have oa : BinOp.add = .add ∨ BinOp.add = .sub ∨ BinOp.add = .mul := by simp
  exact ⟨(_, _), _, fun t => run_cadd t _ _ _ _ w, fop_of oa hp.1 hq.1 _, fop_of oa hp.2 hq.2 _⟩
end Go.Proofs.Ytmhfdjognikilaa
