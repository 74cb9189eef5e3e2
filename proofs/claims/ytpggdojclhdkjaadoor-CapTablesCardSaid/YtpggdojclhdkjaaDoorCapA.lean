/- Layer 7 (cap), plain mathematics: the tables of the package and what its functions compute, as functions on numbers; and the finite facts that the statements need, each by a run over all capabilities and marks. No program is named here. -/
import Derived.WalkKit
import Derived.KernelRfl
namespace Go.Proofs.YtpggdojclhdkjaaDoor
open Go.RowKit

def fitL : List Int := [0, 0, 0, 518, 1023, 516, 816, 1016, 800, 832, 832, 832, 896, 896, 896, 768, 768, 768, 512, 512, 512]
def bitL : List Int := [0, 0, 0, 2, 1, 4, 16, 8, 32, 64, 64, 64, 128, 128, 128, 256, 256, 256, 512, 512, 512]
def viewL : List Int := [0, 0, 0, 0, 0, 0, 0, 0, 1, 6, 6, 4, 6, 6, 0, 1, 2, 5, 4, 5, 6, 0, 1, 2, 3, 4, 5, 6, 0, 4, 4, 4, 4, 4, 6, 0, 6, 5, 5, 4, 5, 6, 0, 0, 0, 0, 0, 0, 0]
def storeL : List Int := [0, 82, 86, 126, 0, 0, 0]
def recL : List Int := [0, 1, 1, 1, 4, 4, 6]
def locL : List Int := [0, 64, 96, 104, 112, 124, 126]
def globL : List Int := [0, 64, 64, 64, 112, 112, 126]
def memL : List Int := [0, 2, 4, 8, 16, 32, 64, 56, 82, 80, 120, 126]

/-- A capability of objects; a mark. -/
def isC (c : Int) : Bool := decide (1 ≤ c) && decide (c ≤ 6)
def isM (m : Int) : Bool := decide (0 ≤ m) && decide (m ≤ 2)
theorem isC_true {c : Int} (h : 1 ≤ c ∧ c ≤ 6) : isC c = true := by simp [isC]; omega
theorem isC_bd {c : Int} (h : isC c = true) : 1 ≤ c ∧ c ≤ 6 := by simpa [isC] using h
theorem isM_true {c : Int} (h : 0 ≤ c ∧ c ≤ 2) : isM c = true := by simp [isM]; omega
theorem isM_bd {c : Int} (h : isM c = true) : 0 ≤ c ∧ c ≤ 2 := by simpa [isM] using h
def isCM (c m : Int) : Bool := isC c && isM m

def fits (a m b o : Int) : Bool := isCM a m && (isCM b o && (bits .and .u64 (fitL.getD (a.toNat * 3 + m.toNat) 0) (bitL.getD (b.toNat * 3 + o.toNat) 0) != 0))
def hasB (s c : Int) : Bool := isC c && (bits .and .u64 (s / 2 ^ c.toNat) 1 == 1)
def reads (c : Int) : Bool := hasB 62 c
def writes (c : Int) : Bool := hasB 14 c
def sendable (c : Int) : Bool := hasB 82 c
def viewI (o f : Int) : Int := if isC o && isC f then viewL.getD (o.toNat * 7 + f.toNat) 0 else 0
def unq (c : Int) : Bool := c == 1 || c == 2
def exI (o f : Int) : Int := if writes o && isC f then (if f == 1 || (f == 2 && o == 3) then f else if f == 2 && o == 2 then 5 else viewI o f) else 0
def exM (o f : Int) : Int := if writes o && isC f then (if f == 1 || (f == 2 && o == 3) then 1 else 0) else 0
def exB (o f : Int) : Bool := if writes o && isC f then (if f == 1 || (f == 2 && o == 3) then true else if f == 2 && o == 2 then true else viewI o f != 0) else false
def loc (a b : Int) : Bool := isC a && hasB (locL.getD a.toNat 0) b
def glob (a b : Int) : Bool := isC a && hasB (globL.getD a.toNat 0) b
def alC (c m : Int) : Int := if isCM c m then c else 0
def alM (c m : Int) : Int := if isCM c m then (if !unq c || m == 1 then 0 else 2) else 0
def cnt (c m : Int) : Int := if m == 2 && c == 1 then 6 else if m == 2 && c == 2 then 5 else c
def stores (o c m : Int) : Bool := isC o && (isCM c m && hasB (storeL.getD o.toNat 0) (cnt c m))

/-! ### Runs over all capabilities and marks -/
def caps : List Int := [1, 2, 3, 4, 5, 6]
def marks : List Int := [0, 1, 2]
theorem mem_caps {c : Int} (h : 1 ≤ c ∧ c ≤ 6) : c ∈ caps := by
  have : c = 1 ∨ c = 2 ∨ c = 3 ∨ c = 4 ∨ c = 5 ∨ c = 6 := by omega
  simp [caps]; omega
theorem mem_marks {c : Int} (h : 0 ≤ c ∧ c ≤ 2) : c ∈ marks := by simp [marks]; omega
theorem all_caps {p : Int → Bool} (h : caps.all p = true) {c : Int} (hc : 1 ≤ c ∧ c ≤ 6) : p c = true := List.all_eq_true.1 h c (mem_caps hc)
theorem all_marks {p : Int → Bool} (h : marks.all p = true) {c : Int} (hc : 0 ≤ c ∧ c ≤ 2) : p c = true := List.all_eq_true.1 h c (mem_marks hc)

theorem fits_refl_run : (caps.all fun x => marks.all fun i => fits x i x i && fits 1 1 x i) = true := by kernel_rfl
theorem fits_trans_run : (caps.all fun x => marks.all fun i => caps.all fun y => marks.all fun j => !fits x i y j || ((!reads y || reads x) && (!writes y || writes x) &&
    caps.all fun z => marks.all fun k => !fits y j z k || fits x i z k)) = true := by kernel_rfl
theorem fits_refl {x i : Int} (hx : 1 ≤ x ∧ x ≤ 6) (hi : 0 ≤ i ∧ i ≤ 2) : fits x i x i = true ∧ fits 1 1 x i = true := by
  have h := all_marks (all_caps fits_refl_run hx) hi
  simpa using h
theorem fits_trans {x i y j z k : Int} (hx : 1 ≤ x ∧ x ≤ 6) (hi : 0 ≤ i ∧ i ≤ 2) (hy : 1 ≤ y ∧ y ≤ 6) (hj : 0 ≤ j ∧ j ≤ 2) (hz : 1 ≤ z ∧ z ≤ 6) (hk : 0 ≤ k ∧ k ≤ 2)
    (h1 : fits x i y j = true) (h2 : fits y j z k = true) : fits x i z k = true := by
  have h := all_marks (all_caps (all_marks (all_caps fits_trans_run hx) hi) hy) hj
  rw [h1] at h
  simp only [Bool.not_true, Bool.false_or, Bool.and_eq_true] at h
  have h3 := all_marks (all_caps h.2 hz) hk
  rw [h2] at h3
  simpa using h3
theorem fits_perm {x i y j : Int} (hx : 1 ≤ x ∧ x ≤ 6) (hi : 0 ≤ i ∧ i ≤ 2) (hy : 1 ≤ y ∧ y ≤ 6) (hj : 0 ≤ j ∧ j ≤ 2)
    (h1 : fits x i y j = true) : (reads y = true → reads x = true) ∧ (writes y = true → writes x = true) := by
  have h := all_marks (all_caps (all_marks (all_caps fits_trans_run hx) hi) hy) hj
  rw [h1] at h
  simp only [Bool.not_true, Bool.false_or, Bool.and_eq_true] at h
  obtain ⟨⟨a, b⟩, _⟩ := h
  exact ⟨fun r => by rw [r] at a; simpa using a, fun r => by rw [r] at b; simpa using b⟩
end Go.Proofs.YtpggdojclhdkjaaDoor
