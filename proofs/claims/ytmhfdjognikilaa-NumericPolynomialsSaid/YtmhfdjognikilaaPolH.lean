/- Layer 16 (numeric), any words of F32: numeric.Product at lists of 1 to 64 numbers. -/
import Derived.Test.YtmhfdjognikilaaPolD
import Derived.IntWalk
namespace Go.Proofs.Ytmhfdjognikilaa
open Go.RowKit Go.Shelf

attribute [local go_sem] run_cadd

/-- What coefficient k is behind the first i rows; and j terms of the next. -/
def stW (x y : Nat → Wx) (m : Nat) : Nat → Nat → Wx
  | 0, _ => (0, 0)
  | i + 1, k => if i ≤ k ∧ k - i < m then wadd (stW x y m i k) (wmul (x i) (y (k - i))) else stW x y m i k
def smW (x y : Nat → Wx) (m i j k : Nat) : Wx := if i ≤ k ∧ k - i < j then wadd (stW x y m i k) (wmul (x i) (y (k - i))) else stW x y m i k
theorem smW_start (x y : Nat → Wx) (m i k : Nat) : smW x y m i 0 k = stW x y m i k := by simp [smW]
theorem smW_row (x y : Nat → Wx) (m i k : Nat) : smW x y m (i + 1) 0 k = smW x y m i m k := by rw [smW_start]; rfl
theorem smW_other (x y : Nat → Wx) (m i j k : Nat) (h : k ≠ i + j) : smW x y m i (j + 1) k = smW x y m i j k := by
  unfold smW
  by_cases hc : i ≤ k ∧ k - i < j
  · rw [if_pos hc, if_pos (by omega)]
  · rw [if_neg hc, if_neg (by omega)]
theorem smW_same (x y : Nat → Wx) (m i j : Nat) : smW x y m i (j + 1) (i + j) = wadd (smW x y m i j (i + j)) (wmul (x i) (y j)) := by
  unfold smW
  rw [if_pos (by omega), if_neg (by omega), Nat.add_sub_cancel_left]

/-- The sums, in a block of their own. -/
def SumsW (w : World) (B N : Nat) (s : Nat → Nat × Nat) (W : World) : Prop :=
  Below w.heap.size w W ∧ w.heap.size ≤ B ∧ B < W.heap.size ∧ (∀ k, k < N → W.frozen? ⟨B, k, none⟩ = false) ∧ ∀ k, k < N → W.cell? ⟨B, k, none⟩ = some (cV (s k))
theorem SumsW.keep {w W W' : World} {B N : Nat} {s : Nat → Nat × Nat} (hB : Below W.heap.size W W') (h : SumsW w B N s W) : SumsW w B N s W' := by
  obtain ⟨h0, h1, h2, h3, h4⟩ := h
  exact ⟨h0.trans (hB.mono h0.size), h1, Nat.lt_of_lt_of_le h2 hB.size, fun k hk => (hB.frozen (p := ⟨B, k, none⟩) h2).trans (h3 k hk), fun k hk => (hB.cell (p := ⟨B, k, none⟩) h2).trans (h4 k hk)⟩
theorem SumsW.set {w : World} {B N k : Nat} {s : Nat → Nat × Nat} {W : World} (r : Nat × Nat) (hk : k < N) (h : SumsW w B N s W) : SumsW w B N (fun j => if j = k then r else s j) (W.setCell ⟨B, k, none⟩ (.complex .f32 r.1 r.2)) := by
  obtain ⟨hb, h0, hl, hf, hs⟩ := h
  refine ⟨hb.setCell (p := ⟨B, k, none⟩) h0 _, h0, by simpa using hl, fun j hj => by rw [World.frozen?_setCell]; exact hf j hj, fun j hj => ?_⟩
  by_cases e : j = k
  · subst e
    simp only [if_true]
    exact World.cell?_setCell_same' _ _ _ (by rw [hs _ hk]; rfl)
  · simp only [if_neg e]
    rw [World.cell?_setCell_other _ _ _ _ (by intro e'; cases e'; exact e rfl)]
    exact hs j hj
theorem Nums.to {W : World} {g n : Nat} {zs ys : Nat → Nat × Nat} (h : Nums W g n zs) (he : ∀ j, j < n → zs j = ys j) : Nums W g n ys := ⟨h.1, fun j hj => by rw [← he j hj]; exact h.2 j hj⟩
/-- What a step of the double loop holds. -/
def Hs (w : World) (B N : Nat) (s : Nat → Nat × Nat) (gx i gy j a1 a2 a3 a4 : Nat) (W : World) : Prop :=
  SumsW w B N s W ∧ (gx < W.heap.size ∧ gy < W.heap.size) ∧ W.cell? ⟨gx, i, none⟩ = some (.complex .f32 a1 a2) ∧ W.cell? ⟨gy, j, none⟩ = some (.complex .f32 a3 a4) ∧ W.cell? ⟨B, i + j, none⟩ = some (.complex .f32 (s (i + j)).1 (s (i + j)).2) ∧ W.frozen? ⟨B, i + j, none⟩ = false
theorem Hs.keep {w W W' : World} {B N : Nat} {s : Nat → Nat × Nat} {gx i gy j a1 a2 a3 a4 : Nat} (hB : Below W.heap.size W W') (h : Hs w B N s gx i gy j a1 a2 a3 a4 W) : Hs w B N s gx i gy j a1 a2 a3 a4 W' := by
  obtain ⟨h0, ⟨h1, h2⟩, h3, h4, h5, h6⟩ := h
  have hs := hB.size
  exact ⟨h0.keep hB, ⟨by omega, by omega⟩, (hB.cell (p := ⟨gx, i, none⟩) h1).trans h3, (hB.cell (p := ⟨gy, j, none⟩) h2).trans h4, (hB.cell (p := ⟨B, i + j, none⟩) h0.2.2.1).trans h5, (hB.frozen (p := ⟨B, i + j, none⟩) h0.2.2.1).trans h6⟩

set_option maxRecDepth 100000 in
set_option maxHeartbeats 2000000 in
theorem productW (w : World) (ga gb n m ca cb : Nat) (za zb : Nat → Nat × Nat) (hn : 1 ≤ n ∧ n ≤ 64) (hm : 1 ≤ m ∧ m ≤ 64) (ha : Nums w ga n za) (hb : Nums w gb m zb) (x y : Nat → Wx) (hx : ∀ j, cnp (za j) = x j) (hy : ∀ j, cnp (zb j) = y j) :
    Calls Try.prog 30 #[.slice (some ⟨ga, 0, none⟩) n ca, .slice (some ⟨gb, 0, none⟩) m cb] w fun e W' => ∃ g, e = .returned (.tuple #[.slice (some ⟨g, 0, none⟩) (n + m - 1 : Nat) (n + m - 1 : Nat), .int .i64 0]) ∧ Nums W' g (n + m - 1) (stW x y m n) ∧ Below w.heap.size w W' := by
  obtain ⟨hn1, hn2⟩ := hn
  obtain ⟨hm1, hm2⟩ := hm
  have HN : ((n : Int) + (m : Int) - 1) = ((n + m - 1 : Nat) : Int) := by omega
  have t1 : ((n : Int) == 0) = false := by rw [beq_eq_false_iff_ne]; omega
  have t2 : ((m : Int) == 0) = false := by rw [beq_eq_false_iff_ne]; omega
  go_enter Try.func30, Try.ntmps30
  go_wp2_with fail
  refine (valuesW _ _ _ _ za ⟨hn1, by omega⟩ ha).mono ?_
  rintro e w1 ⟨v1, rfl, hr1, hB1⟩
  have hb1 := hb.below hB1
  clear ha hb
  go_wp2_with fail
  refine (valuesW _ _ _ _ zb ⟨hm1, by omega⟩ hb1).mono ?_
  rintro e w2 ⟨v2, rfl, hr2, hB2⟩
  have hr1' := hr1.below hB2
  obtain ⟨gx, cx, rfl, hgx, -, hcx⟩ := hr1'
  obtain ⟨gy, cy, rfl, hgy, -, hcy⟩ := hr2
  have hB : Below w.heap.size w w2 := hB1.trans (hB2.mono hB1.size)
  clear hb1 hr1 hB1 hB2
  obtain ⟨cs, hmk, hcs⟩ := madeWC (n + m - 1) ⟨by omega, by omega⟩ w2
  go_wp2_with fail
  have hS0 : SumsW w2 w2.heap.size (n + m - 1) (fun _ => (0, 0)) (w2.alloc (.cells cs 83)) := by
    have hh := World.alloc_heap_new w2 (.cells cs 83)
    refine ⟨(Below.refl _ _).alloc (Nat.le_refl _) _, Nat.le_refl _, by simp, fun j _ => (cell_cells hh).2, fun k hk => ?_⟩
    rw [(cell_cells hh).1, hcs k hk]
  clear hmk hcs HN t1 t2
  have hxv : ∀ j, WV (cnp (za j)) (x j) := fun j => by rw [← hx]; exact wv_cnp _
  have hyv : ∀ j, WV (cnp (zb j)) (y j) := fun j => by rw [← hy]; exact wv_cnp _
  clear hx hy
  obtain ⟨N, hN⟩ : ∃ N, n + m - 1 = N := ⟨_, rfl⟩
  rw [hN] at hS0 ⊢
  generalize hBs : w2.heap.size = Bs at hS0 hgx hgy ⊢
  go_loopw [40] (fun i W => ∃ k : Nat, i = .int .i64 k ∧ k ≤ n ∧ ∃ s, SumsW w2 Bs N s W ∧ ∀ c, c < N → WV (s c) (smW x y m k 0 c)) (fun i _ => n - (intOf i).toNat)
  case atStart => exact ⟨0, rfl, Nat.zero_le _, _, hS0, fun c _ => by rw [smW_start]; exact ⟨cn_num val_zero.num, cn_num val_zero.num⟩⟩
  case round =>
    obtain ⟨i, rfl, hi, s0, hS, hv0⟩ := hrel
    by_cases hlt : i < n
    · obtain ⟨wo, rfl⟩ : ∃ wo : World, wo = wr := ⟨_, rfl⟩
      clear hS0
      go_wp2
      go_loopw [45] (fun j W => ∃ k : Nat, j = .int .i64 k ∧ k ≤ m ∧ ∃ s, SumsW w2 Bs N s W ∧ ∀ c, c < N → WV (s c) (smW x y m i k c)) (fun j _ => m - (intOf j).toNat)
      case atStart => exact ⟨0, rfl, Nat.zero_le _, s0, hS, hv0⟩
      case round =>
        obtain ⟨j, rfl, hj, s, hT, hv⟩ := hrel
        by_cases hjt : j < m
        · clear hS hv0
          have hk : i + j < N := by omega
          have c1 : wr.cell? ⟨gx, i, none⟩ = some (.complex .f32 (cnp (za i)).1 (cnp (za i)).2) := (hT.1.cell (p := ⟨gx, i, none⟩) (by rw [hBs]; exact hgx)).trans (hcx i hlt)
          have c2 : wr.cell? ⟨gy, j, none⟩ = some (.complex .f32 (cnp (zb j)).1 (cnp (zb j)).2) := (hT.1.cell (p := ⟨gy, j, none⟩) (by rw [hBs]; exact hgy)).trans (hcy j hjt)
          have hp := hxv i
          have hq := hyv j
          generalize cnp (za i) = p at c1 hp
          generalize cnp (zb j) = q at c2 hq
          have hlx : gx < wr.heap.size := by have := hT.2.2.1; omega
          have hly : gy < wr.heap.size := by have := hT.2.2.1; omega
          have hZ : Hs w2 Bs N s gx i gy j p.1 p.2 q.1 q.2 wr.drew := (show Hs w2 Bs N s gx i gy j p.1 p.2 q.1 q.2 wr from ⟨hT, ⟨hlx, hly⟩, c1, c2, hT.2.2.2.2 _ hk, hT.2.2.2.1 _ hk⟩).keep (Below.refl _ _).drew
          have c3 := hT.2.2.2.2 _ hk
          have f3 := hT.2.2.2.1 _ hk
          simp only [cV] at c3
          have HV := Lib.hid (And.intro hv hk)
          clear hv hT hcx hcy hxv hyv
          have w3 : IntKind.i64.wrap ((i : Int) + (j : Int)) = (i : Int) + j := IntWalk.i64_in _ (by omega)
          have w4 : ((i : Int) + (j : Int)).toNat = i + j := by omega
          have w5 : 0 ≤ (i : Int) + (j : Int) := by omega
          have w6 : (i : Int) + (j : Int) < (N : Int) := by omega
          go_wp2_with fail
          go_region_with (first
            | (go_at_call 49; refine (product_W hp hq _).mono ?_; rintro e w' ⟨r, rfl, hr, hB'⟩; have hZ' := Hs.keep hB' (by assumption); obtain ⟨-, -, -, -, k3, k4⟩ := id hZ'))
          all_goals go_wp2
          all_goals
            obtain ⟨hv, hk⟩ := HV.out
            go_roundw
            case rel =>
              refine ⟨j + 1, by simp, by omega, _, (hZ'.1.keep (below_drewN (Below.refl _ _) _)).set (_, _) hk, fun c hc => ?_⟩
              by_cases e : c = i + j
              · subst e
                simp only [if_true]
                rw [smW_same]
                exact (hv _ hk).wadd hr _ _
              · simp only [if_neg e]
                rw [smW_other _ _ _ _ _ _ e]
                exact hv c hc
            case measure => simp [intOf]; omega
        · obtain rfl : j = m := by omega
          go_wp2
          go_roundw
          case rel => exact ⟨i + 1, by simp, by omega, s, hT, fun c hc => by rw [smW_row]; exact hv c hc⟩
          case measure => simp [intOf]; omega
    · obtain rfl : i = n := by omega
      clear hS0
      clear hcx hcy hxv hyv
      go_wp2_with fail
      refine (numbersW _ _ _ _ s0 ⟨by omega, by omega⟩ hS.2.2.1 hS.2.2.2.2).mono ?_
      rintro e w3 ⟨g', rfl, hn3, hB3⟩
      go_wp2
      go_ret2
      subst hN
      exact ⟨g', rfl, hn3.to fun c hc => by rw [← smW_start]; exact (hv0 c hc).to, (hB.trans (hS.1.mono hB.size)).trans (hB3.mono (Nat.le_trans hB.size hS.1.size))⟩

end Go.Proofs.Ytmhfdjognikilaa
