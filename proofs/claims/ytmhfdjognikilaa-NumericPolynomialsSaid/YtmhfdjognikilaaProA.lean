/- Layer 16 (numeric), products of polynomials: plain mathematics. No program is named here. -/
import Derived.Test.YtmhfdjognikilaaFloA
namespace Go.Proofs.Ytmhfdjognikilaa
open Ieee

abbrev Cx := Int × Int
def cmul (a b : Cx) : Cx := (a.1 * b.1 - a.2 * b.2, a.1 * b.2 + a.2 * b.1)
def cadd (a b : Cx) : Cx := (a.1 + b.1, a.2 + b.2)
/-- Two words that stand for a complex number of whole parts. -/
def CV (p : Nat × Nat) (c : Cx) : Prop := Val p.1 c.1 ∧ Val p.2 c.2
/-- Both parts are at most C in absolute value. -/
def Bd (C : Nat) (c : Cx) : Prop := (-(C : Int) ≤ c.1 ∧ c.1 ≤ C) ∧ (-(C : Int) ≤ c.2 ∧ c.2 ≤ C)

theorem mul_bd {a b : Int} {A B : Nat} (ha : -(A : Int) ≤ a ∧ a ≤ A) (hb : -(B : Int) ≤ b ∧ b ≤ B) : -((A * B : Nat) : Int) ≤ a * b ∧ a * b ≤ ((A * B : Nat) : Int) := by
  have h : (a * b).natAbs ≤ A * B := by
    rw [Int.natAbs_mul]
    exact Nat.mul_le_mul (by omega) (by omega)
  omega

theorem Bd.mul {A B : Nat} {a b : Cx} (ha : Bd A a) (hb : Bd B b) : Bd (2 * (A * B)) (cmul a b) := by
  have h1 := mul_bd ha.1 hb.1
  have h2 := mul_bd ha.2 hb.2
  have h3 := mul_bd ha.1 hb.2
  have h4 := mul_bd ha.2 hb.1
  unfold Bd cmul
  generalize A * B = P at *
  generalize a.1 * b.1 = u1 at *
  generalize a.2 * b.2 = u2 at *
  generalize a.1 * b.2 = u3 at *
  generalize a.2 * b.1 = u4 at *
  simp only
  omega
theorem Bd.add {A B : Nat} {a b : Cx} (ha : Bd A a) (hb : Bd B b) : Bd (A + B) (cadd a b) := by
  unfold Bd cadd at *
  simp only
  omega
theorem Bd.mono {A B : Nat} {a : Cx} (ha : Bd A a) (h : A ≤ B) : Bd B a := by
  unfold Bd at *
  omega
theorem Bd.zero (A : Nat) : Bd A (0, 0) := by
  unfold Bd
  simp only
  omega
theorem Bd.lt {A : Nat} {a : Cx} (ha : Bd A a) (h : A < 16777216) : a.1.natAbs < 2 ^ 24 ∧ a.2.natAbs < 2 ^ 24 := by
  have e : 2 ^ 24 = 16777216 := rfl
  rw [e]
  unfold Bd at ha
  omega

/-- The sum by Horner: the elements i, i + 1, .., i + r. -/
def hor (c : Nat → Cx) (z : Cx) : Nat → Nat → Cx
  | 0, i => c i
  | r + 1, i => cadd (c i) (cmul z (hor c z r (i + 1)))
/-- The value of a polynomial of n coefficients. -/
def pv (c : Nat → Cx) (z : Cx) (n : Nat) : Cx := if n = 0 then (0, 0) else hor c z (n - 1) 0
def hb (C : Nat) : Nat → Nat
  | 0 => C
  | r + 1 => C + 6 * hb C r
theorem hor_bd {c : Nat → Cx} {z : Cx} {C n : Nat} (hc : ∀ j, j < n → Bd C (c j)) (hz : Bd 3 z) : ∀ r i, i + r < n → Bd (hb C r) (hor c z r i)
  | 0, i, h => hc i h
  | r + 1, i, h => ((hc i (by omega)).add (hz.mul (hor_bd hc hz r (i + 1) (by omega)))).mono (by simp only [hb]; omega)
theorem hb_mono (C : Nat) : ∀ r s, r ≤ s → hb C r ≤ hb C s
  | 0, 0, _ => Nat.le_refl _
  | 0, s + 1, _ => by simp only [hb]; omega
  | r + 1, s + 1, h => by have := hb_mono C r s (by omega); simp only [hb]; omega
theorem hb_le {C r : Nat} (hC : C ≤ 486) (hr : r ≤ 4) : hb C r ≤ 755730 := by
  refine Nat.le_trans (hb_mono C r 4 hr) ?_
  simp only [hb]
  omega
theorem pv_bd {c : Nat → Cx} {z : Cx} {n : Nat} (hc : ∀ j, j < n → Bd 9 (c j)) (hz : Bd 3 z) (hn : n ≤ 3) : Bd 387 (pv c z n) := by
  unfold pv
  split
  · exact Bd.zero _
  · exact (hor_bd hc hz (n - 1) 0 (by omega)).mono (Nat.le_trans (hb_mono 9 (n - 1) 2 (by omega)) (by decide))

/-- What the row i adds to the sum k, when j elements of it have been taken. -/
def row (x y : Nat → Cx) (i j k : Nat) : Cx := if i ≤ k ∧ k - i < j then cmul (x i) (y (k - i)) else (0, 0)
/-- The sum k behind i whole rows of m elements. -/
def st (x y : Nat → Cx) (m : Nat) : Nat → Nat → Cx
  | 0, _ => (0, 0)
  | i + 1, k => cadd (st x y m i k) (row x y i m k)
/-- The sum k behind i whole rows and j elements. -/
def sm (x y : Nat → Cx) (m i j k : Nat) : Cx := cadd (st x y m i k) (row x y i j k)

theorem cadd_zero (a : Cx) : cadd a (0, 0) = a := by simp [cadd]
theorem sm_zero (x y : Nat → Cx) (m k : Nat) : sm x y m 0 0 k = (0, 0) := by simp [sm, st, row, cadd]
theorem sm_row (x y : Nat → Cx) (m i k : Nat) : sm x y m (i + 1) 0 k = sm x y m i m k := by
  have : row x y (i + 1) 0 k = (0, 0) := by simp [row]
  simp only [sm, this, cadd_zero, st]
theorem sm_other (x y : Nat → Cx) (m i j k : Nat) (h : k ≠ i + j) : sm x y m i (j + 1) k = sm x y m i j k := by
  have : row x y i (j + 1) k = row x y i j k := by
    unfold row
    by_cases h1 : i ≤ k ∧ k - i < j
    · rw [if_pos h1, if_pos (by omega)]
    · rw [if_neg h1, if_neg (by omega)]
  simp only [sm, this]
theorem sm_same (x y : Nat → Cx) (m i j : Nat) : sm x y m i (j + 1) (i + j) = cadd (sm x y m i j (i + j)) (cmul (x i) (y j)) := by
  have h1 : row x y i j (i + j) = (0, 0) := by unfold row; rw [if_neg (by omega)]
  have h2 : row x y i (j + 1) (i + j) = cmul (x i) (y j) := by
    unfold row
    rw [if_pos (by omega)]
    congr 2
    omega
  simp only [sm, h1, h2, cadd_zero]
theorem row_bd {x y : Nat → Cx} {n m : Nat} (hx : ∀ j, j < n → Bd 9 (x j)) (hy : ∀ j, j < m → Bd 9 (y j)) (i j k : Nat) (hi : i < n) (hj : j ≤ m) : Bd 162 (row x y i j k) := by
  unfold row
  split
  · rename_i h
    exact ((hx i hi).mul (hy (k - i) (by omega))).mono (by omega)
  · exact Bd.zero _
theorem st_bd {x y : Nat → Cx} {n m : Nat} (hx : ∀ j, j < n → Bd 9 (x j)) (hy : ∀ j, j < m → Bd 9 (y j)) (k : Nat) : ∀ i, i ≤ n → Bd (162 * i) (st x y m i k)
  | 0, _ => Bd.zero _
  | i + 1, h => ((st_bd hx hy k i (by omega)).add (row_bd hx hy i m k (by omega) (Nat.le_refl _))).mono (by omega)
theorem sm_bd {x y : Nat → Cx} {n m : Nat} (hx : ∀ j, j < n → Bd 9 (x j)) (hy : ∀ j, j < m → Bd 9 (y j)) (i j k : Nat) (hi : i < n) (hj : j ≤ m) : Bd (162 * i + 162) (sm x y m i j k) :=
  (st_bd hx hy k i (by omega)).add (row_bd hx hy i j k hi hj)

/-- How many coefficients a product has. -/
def pn (n m : Nat) : Nat := if n = 0 ∨ m = 0 then 0 else n + m - 1

theorem pv_zero (c : Nat → Cx) (z : Cx) : pv c z 0 = (0, 0) := rfl
theorem value_of_product (x y : Nat → Cx) (z : Cx) (n m : Nat) (hn : n ≤ 3) (hm : m ≤ 3) : pv (st x y m n) z (pn n m) = cmul (pv x z n) (pv y z m) := by
  have en : n = 0 ∨ n = 1 ∨ n = 2 ∨ n = 3 := by omega
  have em : m = 0 ∨ m = 1 ∨ m = 2 ∨ m = 3 := by omega
  obtain ⟨u, v⟩ := z
  rcases en with rfl | rfl | rfl | rfl <;> rcases em with rfl | rfl | rfl | rfl <;> simp [pv, pn, cmul]
  all_goals
    simp [hor, st, row, cadd, cmul]
  all_goals
    generalize (x 0).1 = x0 at *
    generalize (x 0).2 = x0' at *
    generalize (y 0).1 = y0 at *
    generalize (y 0).2 = y0' at *
    generalize (x 1).1 = x1 at *
    generalize (x 1).2 = x1' at *
    generalize (y 1).1 = y1 at *
    generalize (y 1).2 = y1' at *
    generalize (x 2).1 = x2 at *
    generalize (x 2).2 = x2' at *
    generalize (y 2).1 = y2 at *
    generalize (y 2).2 = y2' at *
    constructor <;> grind
end Go.Proofs.Ytmhfdjognikilaa
