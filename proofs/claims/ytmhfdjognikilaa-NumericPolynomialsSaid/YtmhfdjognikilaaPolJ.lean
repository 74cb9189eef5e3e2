/- Layer 16 (numeric), any words of F32: Polynomial and Product of any lists of at most 100 numbers, of the program and of the reference. -/
import Derived.Test.YtmhfdjognikilaaPolF
import Derived.Test.YtmhfdjognikilaaPolI
namespace Go.Proofs.Ytmhfdjognikilaa
open Go.RowKit Go.Shelf

/-- The value of a polynomial. -/
def pvW (zs : Nat → Nat × Nat) (n a b : Nat) : Wx := rout (fun j => cnp (zs j)) (cnp (a, b)) n n
theorem pvW_zero (zs : Nat → Nat × Nat) (a b : Nat) : pvW zs 0 a b = (0, 0) := rfl
theorem polyLW (w : World) (v : Value) (n a b : Nat) (zs : Nat → Nat × Nat) (hn : n ≤ 100) (h : LW w v n zs) : Gives 28 #[v, numV a b] w (numV (pvW zs n a b).1 (pvW zs n a b).2) := by
  rcases h with ⟨rfl, rfl⟩ | ⟨h1, g, cap, rfl, hle, hN⟩
  · exact poly_none w a b
  · have e : pvW zs n a b = horW (fun j => cnp (zs j)) (cnp (a, b)) (n - 1) 0 := by
      unfold pvW rout
      rw [if_neg (by omega), Nat.sub_self]
    rw [e]
    exact polyW w g n cap a b zs ⟨h1, hn⟩ hle hN
theorem rpolyLW (w : World) (v : Value) (n a b : Nat) (zs : Nat → Nat × Nat) (hn : n ≤ 100) (h : LW w v n zs) : Gives 29 #[v, numV a b] w (numV (pvW zs n a b).1 (pvW zs n a b).2) := by
  rcases h with ⟨rfl, rfl⟩ | ⟨h1, g, cap, rfl, hle, hN⟩
  · exact rpoly_any w none 0 0 a b zs (by omega) (.inl rfl)
  · exact rpoly_any w _ n cap a b zs hn (.inr ⟨g, rfl, hN⟩)

/-- How long a product is; how it ends; what its coefficients are. -/
def pln (n m : Nat) : Nat := if 64 < n ∨ 64 < m ∨ n = 0 ∨ m = 0 then 0 else n + m - 1
def perr (n m : Nat) : Int := if 64 < n ∨ 64 < m then 4 else 0
def prW (za zb : Nat → Nat × Nat) (n m : Nat) : Nat → Wx := stW (fun j => cnp (za j)) (fun j => cnp (zb j)) m n
/-- What both Products leave. -/
abbrev Prods (f : FuncId) (a b : Value) (w : World) (za zb : Nat → Nat × Nat) (n m : Nat) : Prop :=
  Calls Try.prog f #[a, b] w fun e W' => ∃ ga cap, e = .returned (.tuple #[.slice ga (pln n m) cap, .int .i64 (perr n m)]) ∧ Inp W' ga (pln n m) (prW za zb n m) ∧ Below w.heap.size w W'

set_option maxRecDepth 100000 in
theorem product_out (w : World) (n m ca cb : Nat) (ga gb : Option Addr) (hn : n ≤ 100) (hm : m ≤ 100) (h0 : 64 < n ∨ 64 < m) :
    Is 30 #[.slice ga n ca, .slice gb m cb] w (.tuple #[.slice none 0 0, .int .i64 4]) := by
  by_cases h : 64 < n
  · have t1 : (64 : Int) < (n : Int) := by omega
    clear h h0
    go_enter Try.func30, Try.ntmps30
    go_wp2
    go_ret2
    exact ⟨rfl, rfl⟩
  · have t1 : ¬ (64 : Int) < (n : Int) := by omega
    have t2 : (64 : Int) < (m : Int) := by omega
    clear h h0
    go_enter Try.func30, Try.ntmps30
    go_wp2
    go_ret2
    exact ⟨rfl, rfl⟩
set_option maxRecDepth 100000 in
theorem product_empty (w : World) (n m ca cb : Nat) (ga gb : Option Addr) (hn : n ≤ 64) (hm : m ≤ 64) (h0 : n = 0 ∨ m = 0) :
    Is 30 #[.slice ga n ca, .slice gb m cb] w (.tuple #[.slice none 0 0, .int .i64 0]) := by
  have t1 : ¬ (64 : Int) < (n : Int) := by omega
  have t2 : ¬ (64 : Int) < (m : Int) := by omega
  by_cases h : n = 0
  · subst h
    go_enter Try.func30, Try.ntmps30
    go_wp2
    go_ret2
    exact ⟨rfl, rfl⟩
  · obtain rfl : m = 0 := by omega
    have t3 : ((n : Int) == 0) = false := by rw [beq_eq_false_iff_ne]; omega
    clear h h0
    go_enter Try.func30, Try.ntmps30
    go_wp2
    go_ret2
    exact ⟨rfl, rfl⟩
set_option maxRecDepth 100000 in
theorem rproduct_out (w : World) (n m ca cb : Nat) (ga gb : Option Addr) (hn : n ≤ 100) (hm : m ≤ 100) (h0 : 64 < n ∨ 64 < m) :
    Is 31 #[.slice ga n ca, .slice gb m cb] w (.tuple #[.slice none 0 0, .int .i64 4]) := by
  by_cases h : 64 < n
  · have t1 : (64 : Int) < (n : Int) := by omega
    clear h h0
    go_enter Try.func31, Try.ntmps31
    go_wp2
    go_ret2
    exact ⟨rfl, rfl⟩
  · have t1 : ¬ (64 : Int) < (n : Int) := by omega
    have t2 : (64 : Int) < (m : Int) := by omega
    clear h h0
    go_enter Try.func31, Try.ntmps31
    go_wp2
    go_ret2
    exact ⟨rfl, rfl⟩
set_option maxRecDepth 100000 in
theorem rproduct_empty (w : World) (n m ca cb : Nat) (ga gb : Option Addr) (hn : n ≤ 64) (hm : m ≤ 64) (h0 : n = 0 ∨ m = 0) :
    Calls Try.prog 31 #[.slice ga n ca, .slice gb m cb] w fun e W' => ∃ g, e = .returned (.tuple #[.slice g 0 0, .int .i64 0]) ∧ Below w.heap.size w W' := by
  have t1 : ¬ (64 : Int) < (n : Int) := by omega
  have t2 : ¬ (64 : Int) < (m : Int) := by omega
  have hB0 : Below w.heap.size w (w.alloc (.cells #[] 38)) := (Below.refl _ _).alloc (Nat.le_refl _) _
  by_cases h : n = 0
  · subst h
    go_enter Try.func31, Try.ntmps31
    go_wp2_with fail
    go_loopw [6] (fun v W => v = .slice (some ⟨w.heap.size, 0, none⟩) 0 0 ∧ Below w.heap.size w W) (fun _ _ => 0)
    case atStart => exact ⟨rfl, hB0⟩
    case round =>
      obtain ⟨rfl, hB⟩ := hrel
      go_wp2
      go_ret2
      exact ⟨_, rfl, hB⟩
  · obtain rfl : m = 0 := by omega
    have t3 : (0 : Int) < (n : Int) := by omega
    clear h h0
    go_enter Try.func31, Try.ntmps31
    go_wp2_with fail
    go_loopw [6] (fun v W => v = .slice (some ⟨w.heap.size, 0, none⟩) 0 0 ∧ Below w.heap.size w W) (fun _ _ => 0)
    case atStart => exact ⟨rfl, hB0⟩
    case round =>
      obtain ⟨rfl, hB⟩ := hrel
      go_wp2
      go_ret2
      exact ⟨_, rfl, hB⟩

theorem LW.slice {W : World} {v : Value} {n : Nat} {zs : Nat → Nat × Nat} (h : LW W v n zs) : ∃ g c, v = .slice g n c := by
  rcases h with ⟨rfl, rfl⟩ | ⟨-, g, c, rfl, -⟩
  · exact ⟨_, _, rfl⟩
  · exact ⟨_, _, rfl⟩
theorem prodsLW (w : World) (a b : Value) (n m : Nat) (za zb : Nat → Nat × Nat) (hn : n ≤ 100) (hm : m ≤ 100) (ha : LW w a n za) (hb : LW w b m zb) : Prods 30 a b w za zb n m := by
  obtain ⟨g1, c1, e1⟩ := ha.slice
  obtain ⟨g2, c2, e2⟩ := hb.slice
  by_cases h1 : 64 < n ∨ 64 < m
  · have p1 : pln n m = 0 := by unfold pln; rw [if_pos (by omega)]
    have p2 : perr n m = 4 := by unfold perr; rw [if_pos h1]
    unfold Prods
    rw [p1, p2]
    subst e1 e2
    refine (product_out w n m c1 c2 g1 g2 hn hm h1).mono ?_
    rintro e W' ⟨rfl, rfl⟩
    exact ⟨_, _, rfl, .inl rfl, Below.refl _ _⟩
  have p2 : perr n m = 0 := by unfold perr; rw [if_neg h1]
  by_cases h0 : n = 0 ∨ m = 0
  · have p1 : pln n m = 0 := by unfold pln; rw [if_pos (by omega)]
    unfold Prods
    rw [p1, p2]
    subst e1 e2
    refine (product_empty w n m c1 c2 g1 g2 (by omega) (by omega) h0).mono ?_
    rintro e W' ⟨rfl, rfl⟩
    exact ⟨_, _, rfl, .inl rfl, Below.refl _ _⟩
  · have p1 : pln n m = n + m - 1 := by unfold pln; rw [if_neg (by omega)]
    unfold Prods
    rw [p1, p2]
    obtain ⟨h, -⟩ | ⟨hn1, ga, ca, rfl, -, hna⟩ := ha
    · omega
    obtain ⟨h, -⟩ | ⟨hm1, gb, cb, rfl, -, hnb⟩ := hb
    · omega
    refine (productW w ga gb n m ca cb za zb ⟨hn1, by omega⟩ ⟨hm1, by omega⟩ hna hnb _ _ (fun _ => rfl) (fun _ => rfl)).mono ?_
    rintro e W' ⟨g, rfl, hN, hB⟩
    exact ⟨_, _, rfl, .inr ⟨g, 0, rfl, hN.1, fun j hj => by rw [Nat.zero_add]; exact hN.2 j hj⟩, hB⟩
theorem rprodsLW (w : World) (a b : Value) (n m : Nat) (za zb : Nat → Nat × Nat) (hn : n ≤ 100) (hm : m ≤ 100) (ha : LW w a n za) (hb : LW w b m zb) : Prods 31 a b w za zb n m := by
  obtain ⟨g1, c1, e1⟩ := ha.slice
  obtain ⟨g2, c2, e2⟩ := hb.slice
  by_cases h1 : 64 < n ∨ 64 < m
  · have p1 : pln n m = 0 := by unfold pln; rw [if_pos (by omega)]
    have p2 : perr n m = 4 := by unfold perr; rw [if_pos h1]
    unfold Prods
    rw [p1, p2]
    subst e1 e2
    refine (rproduct_out w n m c1 c2 g1 g2 hn hm h1).mono ?_
    rintro e W' ⟨rfl, rfl⟩
    exact ⟨_, _, rfl, .inl rfl, Below.refl _ _⟩
  have p2 : perr n m = 0 := by unfold perr; rw [if_neg h1]
  by_cases h0 : n = 0 ∨ m = 0
  · have p1 : pln n m = 0 := by unfold pln; rw [if_pos (by omega)]
    unfold Prods
    rw [p1, p2]
    subst e1 e2
    refine (rproduct_empty w n m c1 c2 g1 g2 (by omega) (by omega) h0).mono ?_
    rintro e W' ⟨g, rfl, hB⟩
    exact ⟨_, _, rfl, .inl rfl, hB⟩
  · have p1 : pln n m = n + m - 1 := by unfold pln; rw [if_neg (by omega)]
    unfold Prods
    rw [p1, p2]
    obtain ⟨h, -⟩ | ⟨hn1, ga, ca, rfl, -, hna⟩ := ha
    · omega
    obtain ⟨h, -⟩ | ⟨hm1, gb, cb, rfl, -, hnb⟩ := hb
    · omega
    refine (rproductW w ga gb n m ca cb za zb ⟨hn1, by omega⟩ ⟨hm1, by omega⟩ hna hnb _ _ (fun _ => rfl) (fun _ => rfl)).mono ?_
    rintro e W' ⟨v, rfl, hL, hB⟩
    obtain ⟨g, c, rfl, hI⟩ := hL.inp
    exact ⟨_, _, rfl, hI, hB⟩
end Go.Proofs.Ytmhfdjognikilaa
