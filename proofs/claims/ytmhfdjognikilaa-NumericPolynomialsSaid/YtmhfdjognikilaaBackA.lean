/- Layer 16 (numeric), transforms: plain mathematics of transforms of 1, 2 and 4 points of whole numbers. No program is named here. -/
import Derived.Test.YtmhfdjognikilaaProA
namespace Go.Proofs.Ytmhfdjognikilaa
open Ieee

def csub (a b : Cx) : Cx := (a.1 - b.1, a.2 - b.2)
def conj (a : Cx) : Cx := (a.1, -a.2)
/-- The transform of n points (1, 2 or 4). -/
def ft (c : Nat → Cx) (n k : Nat) : Cx :=
  if n = 1 then c 0
  else if n = 2 then (if k = 0 then cadd (c 0) (cmul (1, 0) (c 1)) else csub (c 0) (cmul (1, 0) (c 1)))
  else if k = 0 then cadd (cadd (c 0) (cmul (1, 0) (c 2))) (cmul (1, 0) (cadd (c 1) (cmul (1, 0) (c 3))))
  else if k = 1 then cadd (csub (c 0) (cmul (1, 0) (c 2))) (cmul (0, -1) (csub (c 1) (cmul (1, 0) (c 3))))
  else if k = 2 then csub (cadd (c 0) (cmul (1, 0) (c 2))) (cmul (1, 0) (cadd (c 1) (cmul (1, 0) (c 3))))
  else csub (csub (c 0) (cmul (1, 0) (c 2))) (cmul (0, -1) (csub (c 1) (cmul (1, 0) (c 3))))
/-- The factors of n points. -/
def tw (n k : Nat) : Cx :=
  if k = 0 then (1, 0) else if n = 2 then (-1, 0) else if k = 1 then (0, -1) else if k = 2 then (-1, 0) else (0, 1)

theorem ft_bd {c : Nat → Cx} {C n : Nat} (hn : n = 1 ∨ n = 2 ∨ n = 4) (h : ∀ j, j < n → Bd C (c j)) (k : Nat) : Bd (n * C) (ft c n k) := by
  rcases hn with rfl | rfl | rfl
  · have h0 := h 0 (by omega)
    simp only [ft, if_true]
    exact h0.mono (by omega)
  · have h0 := h 0 (by omega)
    have h1 := h 1 (by omega)
    unfold Bd at *
    by_cases hk : k = 0 <;> simp [ft, hk, cadd, csub, cmul] <;> omega
  · have h0 := h 0 (by omega)
    have h1 := h 1 (by omega)
    have h2 := h 2 (by omega)
    have h3 := h 3 (by omega)
    unfold Bd at *
    simp only [ft]
    simp
    repeat' split
    all_goals simp [cadd, csub, cmul]
    all_goals omega

theorem ft_add (c d : Nat → Cx) (n k : Nat) (hn : n = 1 ∨ n = 2 ∨ n = 4) : ft (fun j => cadd (c j) (d j)) n k = cadd (ft c n k) (ft d n k) := by
  rcases hn with rfl | rfl | rfl
  · simp [ft]
  · simp only [ft]
    simp
    split <;> simp [cadd, csub, cmul] <;> omega
  · simp only [ft]
    simp
    repeat' split
    all_goals simp [cadd, csub, cmul]
    all_goals omega

theorem ft_turned (c : Nat → Cx) (n k : Nat) (hn : n = 1 ∨ n = 2 ∨ n = 4) (hk : k < n) : ft (fun j => c ((j + n - 1) % n)) n k = cmul (tw n k) (ft c n k) := by
  rcases hn with rfl | rfl | rfl
  · obtain rfl : k = 0 := by omega
    simp [ft, tw, cmul]
  · have : k = 0 ∨ k = 1 := by omega
    rcases this with rfl | rfl <;> simp [ft, tw, cadd, csub, cmul] <;> omega
  · have : k = 0 ∨ k = 1 ∨ k = 2 ∨ k = 3 := by omega
    rcases this with rfl | rfl | rfl | rfl <;> simp [ft, tw, cadd, csub, cmul] <;> omega

theorem ft_back (c : Nat → Cx) (n k : Nat) (hn : n = 1 ∨ n = 2 ∨ n = 4) (hk : k < n) : conj (ft (fun j => conj (ft c n j)) n k) = ((n : Int) * (c k).1, (n : Int) * (c k).2) := by
  rcases hn with rfl | rfl | rfl
  · obtain rfl : k = 0 := by omega
    simp [ft, conj]
  · have : k = 0 ∨ k = 1 := by omega
    rcases this with rfl | rfl <;> simp [ft, conj, cadd, csub, cmul] <;> omega
  · have : k = 0 ∨ k = 1 ∨ k = 2 ∨ k = 3 := by omega
    rcases this with rfl | rfl | rfl | rfl <;> simp [ft, conj, cadd, csub, cmul] <;> omega

/-- The power of a value. -/
def pw (a : Cx) : Int := a.1 * a.1 + a.2 * a.2
theorem pw_turned (c : Nat → Int) (n k : Nat) (hn : n = 1 ∨ n = 2 ∨ n = 4) (hk : k < n) : pw (ft (fun j => (c ((j + n - 1) % n), 0)) n k) = pw (ft (fun j => (c j, 0)) n k) := by
  have h := ft_turned (fun j => (c j, 0)) n k hn hk
  rw [h]
  generalize ft (fun j => (c j, 0)) n k = z
  unfold tw pw cmul
  repeat' split
  all_goals simp
  all_goals grind

theorem Bd.sub {A B : Nat} {a b : Cx} (ha : Bd A a) (hb : Bd B b) : Bd (A + B) (csub a b) := by
  unfold Bd csub at *
  simp only
  omega
theorem Bd.conj {A : Nat} {a : Cx} (ha : Bd A a) : Bd A (conj a) := by
  unfold Bd Ytmhfdjognikilaa.conj at *
  simp only
  omega
theorem ft_to {c c' : Nat → Cx} {n : Nat} (hn : n = 1 ∨ n = 2 ∨ n = 4) (h : ∀ j, j < n → c' j = c j) (k : Nat) : ft c' n k = ft c n k := by
  rcases hn with rfl | rfl | rfl
  · simp only [ft, if_true, h 0 (by omega)]
  · simp [ft, h 0 (by omega), h 1 (by omega)]
  · simp only [ft, h 0 (by omega), h 1 (by omega), h 2 (by omega), h 3 (by omega)]
end Go.Proofs.Ytmhfdjognikilaa
