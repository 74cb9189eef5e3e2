/- Layer 7 (cap): slices.IsSorted of a list of numbers that ascends. -/
import Derived.Test.YtpggdojclhdkjaaDoorShelf
import Derived.Test.YtpggdojclhdkjaaDoorCapG
import Derived.Lib.Hide
namespace Go.Proofs.YtpggdojclhdkjaaDoor
open Go.RowKit

theorem isSorted_true (b off n c : Nat) (zs : List Int) (w : World) (hn : 0 < n) (hbig : n ≤ 1000) (hz : n ≤ zs.length) (hc : ∀ j, j < zs.length → w.cell? ⟨b, off + j, none⟩ = some (.int .i64 (zs.getD j 0)))
    (hs : ∀ i, i + 1 < n → zs.getD i 0 ≤ zs.getD (i + 1) 0) :
    Calls Tryd.prog 47 #[.slice (some ⟨b, off, none⟩) n c] w fun e w' => e = .returned (.bool true) ∧ ∃ q, w' = w.drewN q := by
  go_enter Tryd.func47, Tryd.ntmps47
  go_wp2
  go_loopw [3] (fun i wr => ∃ k q : Nat, k < n ∧ i = .int .i64 k ∧ wr = w.drewN q) (fun i _ => (intOf i).toNat)
  case atStart => exact ⟨n - 1, 0, by omega, by congr 1; omega, rfl⟩
  case round =>
    obtain ⟨k, q, hk, rfl, hw⟩ := hrel
    have hcw : ∀ j, j < zs.length → wr.cell? ⟨b, off + j, none⟩ = some (.int .i64 (zs.getD j 0)) := fun j hj => by rw [hw]; exact hc j hj
    have HW := Lib.hid hw
    clear hw
    by_cases h0 : 0 < k
    · obtain ⟨m, rfl⟩ : ∃ m, k = m + 1 := ⟨k - 1, by omega⟩
      have g1 := hcw (m + 1) (by omega)
      have g2 := hcw m (by omega)
      have hle := hs m hk
      generalize zs.getD (m + 1) 0 = x at *
      generalize zs.getD m 0 = y at *
      clear hcw hs hc
      have hlt : decide (x < y) = false := by simp; omega
      go_wp2
      go_quiet (first | (go_at_call 60; refine Calls.quiet_of_same (Tryd.cmp_Less_int2 _ _ _)))
      go_wp2
      exact ⟨⟨m, q + nq, by omega, rfl, by rw [HW.out, World.drewN_drewN]⟩, by simp [intOf]⟩
    · have hk0 : k = 0 := by omega
      subst hk0
      clear hcw hs hc
      go_wp2
      go_ret
      exact ⟨rfl, q, HW.out⟩

theorem below_drewN {B : Nat} {a w : World} {n : Nat} (h : Below B a w) : Below B a (w.drewN n) := ⟨h.os, h.tape, h.output, h.size, h.block⟩
theorem below_cells {B b : Nat} (hb : B ≤ b) {a : World} : ∀ (vs : List Value) (o : Nat) (w : World), Below B a w → Below B a (w.setCells b o vs)
  | [], _, _, h => h
  | v :: r, o, _, h => below_cells hb r (o + 1) _ (h.setCell (p := ⟨b, o, none⟩) hb v)

/-- A row of the call's own that is not empty: its place, its cells. -/
theorem own_row {w : World} {B n : Nat} {e : TypeId} {v : Value} {zs : List Int} (h : w.ownsRow B e 1 v n (zs.map (Value.int .i64))) (h0 : 0 < zs.length) :
    n = zs.length ∧ ∃ g cap, v = .slice (some ⟨g, 0, none⟩) zs.length cap ∧ B ≤ g ∧ zs.length ≤ cap ∧ (∀ j, j < zs.length → w.cell? ⟨g, 0 + j, none⟩ = some (.int .i64 (zs.getD j 0))) ∧ (∀ j, j < zs.length → w.frozen? ⟨g, 0 + j, none⟩ = false) := by
  have hn : n = zs.length := by have := h.1; simp at this; omega
  subst hn
  obtain ⟨_, h2⟩ := h
  rcases h2 with ⟨_, h2⟩ | ⟨g, cap, cur, rfl, hb, hg, hc, _, hs, ht⟩
  · omega
  · refine ⟨rfl, g, cap, rfl, hb, hc, fun j hj => ?_, fun j hj => ?_⟩
    · have e1 : cur.toList[j]? = some (.int .i64 (zs.getD j 0)) := by
        have := congrArg (·[j]?) ht
        simp only [Nat.mul_one, List.getElem?_take, List.getElem?_map] at this
        rw [if_pos hj, List.getElem?_eq_getElem hj] at this
        rw [this, List.getD, List.getElem?_eq_getElem hj]; rfl
      simp [World.cell?, hg]
      simpa using e1
    · simp [World.frozen?, hg]

theorem clone_c (b n c : Nat) (zs : List Int) (w : World) (h0 : 0 < zs.length) (hz : n = zs.length) (hbig : zs.length ≤ 1000) (hc : ∀ j, j < zs.length → w.cell? ⟨b, 0 + j, none⟩ = some (.int .i64 (zs.getD j 0))) :
    Calls Tryd.prog 49 #[.slice (some ⟨b, 0, none⟩) n c] w fun e w' => ∃ g cap, e = .returned (.slice (some ⟨g, 0, none⟩) zs.length cap) ∧ w.heap.size ≤ g ∧ zs.length ≤ cap ∧
      (∀ j, j < zs.length → w'.cell? ⟨g, 0 + j, none⟩ = some (.int .i64 (zs.getD j 0))) ∧ (∀ j, j < zs.length → w'.frozen? ⟨g, 0 + j, none⟩ = false) ∧ Below w.heap.size w w' := by
  subst hz
  refine (Tryd.slices_Clone_int b 0 zs.length c zs w (Nat.le_refl _) (by omega) hc).mono ?_
  rintro e w' ⟨v', rfl, hown, _, hb⟩
  rw [List.take_length] at hown
  obtain ⟨_, g, cap, rfl, hg, hcap, hcell, hfr⟩ := own_row hown h0
  exact ⟨g, cap, rfl, hg, hcap, hcell, hfr, hb⟩

theorem compact_c (b n c : Nat) (zs : List Int) (w : World) (hn : n = zs.length) (hbig : zs.length ≤ 1000) (hcap : zs.length ≤ c) (hcmp : Lib.compact zs = zs) (hc : ∀ j, j < zs.length → w.cell? ⟨b, 0 + j, none⟩ = some (.int .i64 (zs.getD j 0)))
    (hf : ∀ j, j < zs.length → w.frozen? ⟨b, 0 + j, none⟩ = false) :
    Calls Tryd.prog 48 #[.slice (some ⟨b, 0, none⟩) n c] w fun e w' => e = .returned (.slice (some ⟨b, 0, none⟩) zs.length c) ∧ ∀ B, B ≤ b → Below B w w' := by
  subst hn
  refine (Tryd.slices_Compact_int_cells b 0 zs.length c zs w (Nat.le_refl _) (by omega) hcap hc hf).mono ?_
  rintro e w' ⟨rfl, q, rfl⟩
  rw [List.take_length, hcmp]
  exact ⟨rfl, fun B hB => below_cells hB _ _ _ (below_drewN (Below.refl _ _))⟩

theorem contains_c (b n c : Nat) (zs : List Int) (x : Int) (w : World) (hn : n = zs.length) (hbig : zs.length ≤ 1000) (hc : ∀ j, j < zs.length → w.cell? ⟨b, 0 + j, none⟩ = some (.int .i64 (zs.getD j 0))) :
    Calls Tryd.prog 50 #[.slice (some ⟨b, 0, none⟩) n c, .int .i64 x] w fun e w' => e = .returned (.bool (zs.contains x)) ∧ w = w' := by
  subst hn
  refine (Tryd.slices_Contains_int b 0 zs.length c zs x w (Nat.le_refl _) (by omega) hc).mono ?_
  rintro e w' ⟨rfl, rfl⟩
  rw [List.take_length]
  exact ⟨rfl, rfl⟩
end Go.Proofs.YtpggdojclhdkjaaDoor
