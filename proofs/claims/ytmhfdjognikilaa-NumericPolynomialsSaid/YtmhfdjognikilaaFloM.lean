/- Layer 16, part M. -/
import Derived.Test.YtmhfdjognikilaaFloL
namespace Go.Proofs.Ytmhfdjognikilaa
open Go.RowKit Go.Shelf

/-- The call ends with a number whose parts are the whole numbers n and m. -/
abbrev Made (f : FuncId) (args : Array Value) (w : World) (n m : Int) : Prop :=
  Calls Try.prog f args w fun e W' => ∃ a b, Val a n ∧ Val b m ∧ e = .returned (numV a b) ∧ Below w.heap.size w W'

theorem Made.of {f : FuncId} {args : Array Value} {w : World} {n m : Int} {a b : Nat} (ha : Val a n) (hb : Val b m) (h : Gives f args w (numV a b)) : Made f args w n m :=
  h.mono fun _ _ hp => ⟨a, b, ha, hb, hp.1, hp.2⟩

theorem val_int (n : Int) (hn : n.natAbs < 2 ^ 24) : Val (floatOfInt .f32 n) n := Val.ofInt n hn

theorem mkV (n m : Int) (w : World) (hn : n.natAbs < 2 ^ 24) (hm : m.natAbs < 2 ^ 24) : Made 39 #[.int .i64 n, .int .i64 m] w n m :=
  .of (val_int n hn) (val_int m hm) (mk_any n m w (val_int n hn).num (val_int m hm).num)

theorem addV {a b c d : Nat} {n m p q : Int} (ha : Val a n) (hb : Val b m) (hc : Val c p) (hd : Val d q) (w : World) (h1 : (n + p).natAbs < 2 ^ 24) (h2 : (m + q).natAbs < 2 ^ 24) : Made 13 #[numV a b, numV c d] w (n + p) (m + q) := by
  obtain ⟨re, e1, v1⟩ := ha.add hc h1
  obtain ⟨im, e2, v2⟩ := hb.add hd h2
  exact .of v1 v2 (add_any _ _ _ _ _ _ w ha.num hb.num hc.num hd.num v1.num v2.num e1 e2)

theorem subV {a b c d : Nat} {n m p q : Int} (ha : Val a n) (hb : Val b m) (hc : Val c p) (hd : Val d q) (w : World) (h1 : (n - p).natAbs < 2 ^ 24) (h2 : (m - q).natAbs < 2 ^ 24) : Made 14 #[numV a b, numV c d] w (n - p) (m - q) := by
  obtain ⟨re, e1, v1⟩ := ha.sub hc h1
  obtain ⟨im, e2, v2⟩ := hb.sub hd h2
  exact .of v1 v2 (sub_any _ _ _ _ _ _ w ha.num hb.num hc.num hd.num v1.num v2.num e1 e2)

theorem mulV {a b c d : Nat} {n m p q : Int} (ha : Val a n) (hb : Val b m) (hc : Val c p) (hd : Val d q) (w : World) (h1 : (n * p).natAbs < 2 ^ 24) (h2 : (m * q).natAbs < 2 ^ 24) (h3 : (n * p - m * q).natAbs < 2 ^ 24)
    (h4 : (n * q).natAbs < 2 ^ 24) (h5 : (m * p).natAbs < 2 ^ 24) (h6 : (n * q + m * p).natAbs < 2 ^ 24) : Made 15 #[numV a b, numV c d] w (n * p - m * q) (n * q + m * p) := by
  obtain ⟨x1, e1, v1⟩ := ha.mul hc h1
  obtain ⟨x2, e2, v2⟩ := hb.mul hd h2
  obtain ⟨re, e3, v3⟩ := v1.sub v2 h3
  obtain ⟨x3, e4, v4⟩ := ha.mul hd h4
  obtain ⟨x4, e5, v5⟩ := hb.mul hc h5
  obtain ⟨im, e6, v6⟩ := v4.add v5 h6
  exact .of v3 v6 (mul_any _ _ _ _ _ _ w ha.num hb.num hc.num hd.num v3.num v6.num fun w => product_any _ _ _ _ x1 x2 x3 x4 _ _ w e1 e2 e3 e4 e5 e6)

/-- A number that was multiplied by a power of two is divided by it. -/
theorem divV {a b c d : Nat} {n m : Int} {j : Nat} (hj : j ≤ 7) (hn : n.natAbs ≤ 1000) (hm : m.natAbs ≤ 1000) (ha : Val a (n * 2 ^ j)) (hb : Val b (m * 2 ^ j)) (hc : Val c (2 ^ j)) (hd : Val d 0) (w : World) : Made 16 #[numV a b, numV c d] w n m := by
  have hp : (2 : Int) ^ j * 2 ^ j = 2 ^ (2 * j) := by rw [← Int.pow_add]; congr 1; omega
  have hjj : (1 : Int) ≤ 2 ^ (2 * j) ∧ (2 : Int) ^ (2 * j) ≤ 16384 := by
    have : j = 0 ∨ j = 1 ∨ j = 2 ∨ j = 3 ∨ j = 4 ∨ j = 5 ∨ j = 6 ∨ j = 7 := by omega
    rcases this with rfl | rfl | rfl | rfl | rfl | rfl | rfl | rfl <;> decide
  have big : ∀ x : Int, x.natAbs ≤ 1000 → (x * 2 ^ (2 * j)).natAbs < 2 ^ 24 := by
    intro x hx
    rw [Int.natAbs_mul]
    have h1 : ((2 : Int) ^ (2 * j)).natAbs ≤ 16384 := by omega
    exact Nat.lt_of_le_of_lt (Nat.mul_le_mul hx h1) (by decide)
  have hn' := big n hn
  have hm' := big m hm
  obtain ⟨x1, e1, v1⟩ := ha.mul hc (by rw [Int.mul_assoc, hp]; exact hn')
  obtain ⟨x2, e2, v2⟩ := hb.mul hd (by simp)
  obtain ⟨x3, e3, v3⟩ := v1.add v2 (by rw [Int.mul_assoc, hp, Int.mul_zero, Int.add_zero]; exact hn')
  obtain ⟨y1, g1, u1⟩ := hb.mul hc (by rw [Int.mul_assoc, hp]; exact hm')
  obtain ⟨y2, g2, u2⟩ := ha.mul hd (by simp)
  obtain ⟨y3, g3, u3⟩ := u1.sub u2 (by rw [Int.mul_assoc, hp, Int.mul_zero, Int.sub_zero]; exact hm')
  obtain ⟨z1, f1, t1⟩ := hc.mul hc (by rw [hp]; omega)
  obtain ⟨z2, f2, t2⟩ := hd.mul hd (by simp)
  obtain ⟨z3, f3, t3⟩ := t1.add t2 (by rw [hp]; omega)
  rw [Int.mul_assoc, hp, Int.mul_zero, Int.add_zero] at v3
  rw [Int.mul_assoc, hp, Int.mul_zero, Int.sub_zero] at u3
  rw [hp, Int.mul_zero, Int.add_zero] at t3
  obtain ⟨re, e4, v4⟩ := v3.div t3 (by omega)
  obtain ⟨im, g4, u4⟩ := u3.div t3 (by omega)
  exact .of v4 u4 (div_any _ _ _ _ _ _ w ha.num hb.num hc.num hd.num v4.num u4.num fun w =>
    quotient_any _ _ _ _ z3 x1 x2 x3 y1 y2 y3 _ _ w (fun w => power_any _ _ _ _ _ w f1 f2 f3) e1 e2 e3 e4 g1 g2 g3 g4)

theorem conjV {a b : Nat} {n m : Int} (ha : Val a n) (hb : Val b m) (w : World) : Made 17 #[numV a b] w n (-m) := 
  .of ha hb.neg (conj_any _ _ _ w ha.num hb.num hb.neg.num (bits_xor b hb.lt))

theorem equalV {a b c d : Nat} {n m : Int} (ha : Val a n) (hb : Val b m) (hc : Val c n) (hd : Val d m) (w : World) : Gives 41 #[numV a b, numV c d] w (.bool true) :=
  equal_any a b c d w ha.num hb.num hc.num hd.num (ha.order hc) (hb.order hd)

theorem partsV {a b : Nat} {n m : Int} (ha : Val a n) (hb : Val b m) (w : World) : Gives 11 #[numV a b] w (.tuple #[.float .f32 a, .float .f32 b]) := parts_any a b w ha.num hb.num
end Go.Proofs.Ytmhfdjognikilaa
