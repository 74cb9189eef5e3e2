/- Layer 16 (numeric), products of polynomials: numeric.Product at lists of one to three numbers. -/
import Derived.Test.YtmhfdjognikilaaProB
import Derived.StillTailTactics
import Derived.IntWalk
import Derived.Outline
import Derived.Lib.Hide
namespace Go.Proofs.Ytmhfdjognikilaa
open Go.RowKit Go.Shelf

theorem CV.add {p q : Nat × Nat} {a b : Cx} {A : Nat} (h : CV p a) (g : CV q b) (hb : Bd A (cadd a b)) (hA : A < 16777216) : ∃ r : Nat × Nat, Ieee.single.add p.1 q.1 = some r.1 ∧ Ieee.single.add p.2 q.2 = some r.2 ∧ CV r (cadd a b) := by
  obtain ⟨b1, b2⟩ := hb.lt hA
  obtain ⟨r1, e1, v1⟩ := h.1.add g.1 b1
  obtain ⟨r2, e2, v2⟩ := h.2.add g.2 b2
  exact ⟨(r1, r2), e1, e2, v1, v2⟩

/-- What the product of two values of whole parts is. -/
theorem productC {p q : Nat × Nat} {a b : Cx} {A B : Nat} (h : CV p a) (g : CV q b) (ha : Bd A a) (hb : Bd B b) (hA : 2 * (A * B) < 16777216) : ∃ r : Nat × Nat, CV r (cmul a b) ∧ ∀ w, Is 49 #[.complex .f32 p.1 p.2, .complex .f32 q.1 q.2] w (.complex .f32 r.1 r.2) := by
  have h1 := mul_bd ha.1 hb.1
  have h2 := mul_bd ha.2 hb.2
  have h3 := mul_bd ha.1 hb.2
  have h4 := mul_bd ha.2 hb.1
  obtain ⟨b1, b2⟩ := (ha.mul hb).lt hA
  have e24 : 2 ^ 24 = 16777216 := rfl
  obtain ⟨x1, e1, v1⟩ := h.1.mul g.1 (by rw [e24]; generalize A * B = P at *; omega)
  obtain ⟨x2, e2, v2⟩ := h.2.mul g.2 (by rw [e24]; generalize A * B = P at *; omega)
  obtain ⟨re, e3, v3⟩ := v1.sub v2 b1
  obtain ⟨x3, e4, v4⟩ := h.1.mul g.2 (by rw [e24]; generalize A * B = P at *; omega)
  obtain ⟨x4, e5, v5⟩ := h.2.mul g.1 (by rw [e24]; generalize A * B = P at *; omega)
  obtain ⟨im, e6, v6⟩ := v4.add v5 b2
  exact ⟨(re, im), ⟨v3, v6⟩, fun w => product_any _ _ _ _ x1 x2 x3 x4 _ _ w e1 e2 e3 e4 e5 e6⟩

theorem CV.num {p : Nat × Nat} {a : Cx} (h : CV p a) : Num p.1 ∧ Num p.2 := ⟨h.1.num, h.2.num⟩

/-- The sums, in a block of their own. -/
def Sums (w : World) (B N : Nat) (c : Nat → Cx) (W : World) : Prop :=
  Below w.heap.size w W ∧ w.heap.size ≤ B ∧ B < W.heap.size ∧ (∀ k, k < N → W.frozen? ⟨B, k, none⟩ = false) ∧ ∃ s : Nat → Nat × Nat, ∀ k, k < N → W.cell? ⟨B, k, none⟩ = some (cV (s k)) ∧ CV (s k) (c k)

theorem Sums.set {w : World} {B N k : Nat} {c c' : Nat → Cx} {W : World} {r : Nat × Nat} (hk : k < N) (h : Sums w B N c W) (hr : CV r (c' k)) (ho : ∀ j, j < N → j ≠ k → c' j = c j) : Sums w B N c' (W.setCell ⟨B, k, none⟩ (.complex .f32 r.1 r.2)) := by
  obtain ⟨hb, h0, hl, hf, s, hs⟩ := h
  refine ⟨hb.setCell (p := ⟨B, k, none⟩) h0 _, h0, by simpa using hl, fun j hj => by rw [World.frozen?_setCell]; exact hf j hj, fun j => if j = k then r else s j, fun j hj => ?_⟩
  by_cases e : j = k
  · subst e
    simp only [if_true]
    exact ⟨World.cell?_setCell_same' _ _ _ (by rw [(hs _ hk).1]; rfl), hr⟩
  · simp only [if_neg e]
    rw [World.cell?_setCell_other _ _ _ _ (by intro e'; cases e'; exact e rfl), ho j hj e]
    exact hs j hj
theorem Sums.drew {w : World} {B N : Nat} {c : Nat → Cx} {W : World} (h : Sums w B N c W) : Sums w B N c W.drew := ⟨h.1.drew, h.2⟩
theorem Sums.to {w : World} {B N : Nat} {c c' : Nat → Cx} {W : World} (h : Sums w B N c W) (hc : ∀ k, c' k = c k) : Sums w B N c' W := by
  obtain rfl : c' = c := funext hc
  exact h

theorem val_zero : Val 0 0 := ⟨by decide, false, fun h => absurd rfl h, by decide⟩

set_option maxRecDepth 100000 in
set_option maxHeartbeats 2000000 in
theorem product_some (w : World) (ga gb n m ca cb : Nat) (za zb : Nat → Nat × Nat) (x y : Nat → Cx) (hn : 1 ≤ n ∧ n ≤ 3) (hm : 1 ≤ m ∧ m ≤ 3) (ha : Nums w ga n za) (hb : Nums w gb m zb)
    (hx : ∀ j, j < n → CV (za j) (x j) ∧ Bd 9 (x j)) (hy : ∀ j, j < m → CV (zb j) (y j) ∧ Bd 9 (y j)) :
    Calls Try.prog 30 #[.slice (some ⟨ga, 0, none⟩) n ca, .slice (some ⟨gb, 0, none⟩) m cb] w fun e W' => ∃ g zs, e = .returned (.tuple #[.slice (some ⟨g, 0, none⟩) (n + m - 1 : Nat) (n + m - 1 : Nat), .int .i64 0]) ∧ Nums W' g (n + m - 1) zs ∧ (∀ k, k < n + m - 1 → CV (zs k) (st x y m n k)) ∧ Below w.heap.size w W' := by
  obtain ⟨hn1, hn2⟩ := hn
  obtain ⟨hm1, hm2⟩ := hm
  have HN : ((n : Int) + (m : Int) - 1) = ((n + m - 1 : Nat) : Int) := by omega
  have hna : ∀ j, j < n → Num (za j).1 ∧ Num (za j).2 := fun j hj => (hx j hj).1.num
  have hnb : ∀ j, j < m → Num (zb j).1 ∧ Num (zb j).2 := fun j hj => (hy j hj).1.num
  have t1 : ((n : Int) == 0) = false := by rw [beq_eq_false_iff_ne]; omega
  have t2 : ((m : Int) == 0) = false := by rw [beq_eq_false_iff_ne]; omega
  go_enter Try.func30, Try.ntmps30
  go_wp2_with fail
  refine (valuesP _ _ _ _ za ⟨hn1, by omega⟩ ha hna).mono ?_
  rintro e w1 ⟨v1, rfl, hr1, hB1⟩
  have hb1 := hb.below hB1
  clear ha hb hna
  go_wp2_with fail
  refine (valuesP _ _ _ _ zb ⟨hm1, by omega⟩ hb1 hnb).mono ?_
  rintro e w2 ⟨v2, rfl, hr2, hB2⟩
  have hr1' := hr1.below hB2
  obtain ⟨gx, cx, rfl, hgx, -, hcx⟩ := hr1'
  obtain ⟨gy, cy, rfl, hgy, -, hcy⟩ := hr2
  have hB : Below w.heap.size w w2 := hB1.trans (hB2.mono hB1.size)
  clear hb1 hnb hr1 hB1 hB2
  obtain ⟨cs, hmk, hcs⟩ := madeC (n + m - 1) ⟨by omega, by omega⟩ w2
  go_wp2_with fail
  have hS0 : Sums w2 w2.heap.size (n + m - 1) (sm x y m 0 0) (w2.alloc (.cells cs 83)) := by
    have hh := World.alloc_heap_new w2 (.cells cs 83)
    refine ⟨(Below.refl _ _).alloc (Nat.le_refl _) _, Nat.le_refl _, by simp, fun j _ => (cell_cells hh).2, fun _ => (0, 0), fun k hk => ?_⟩
    rw [(cell_cells hh).1, hcs k hk, sm_zero]
    exact ⟨rfl, val_zero, val_zero⟩
  clear hmk hcs HN t1 t2
  obtain ⟨N, hN⟩ : ∃ N, n + m - 1 = N := ⟨_, rfl⟩
  rw [hN] at hS0 ⊢
  generalize hBs : w2.heap.size = Bs at hS0 hgx hgy ⊢
  go_loopw [40] (fun i W => ∃ k : Nat, i = .int .i64 k ∧ k ≤ n ∧ Sums w2 Bs N (sm x y m k 0) W) (fun i _ => n - (intOf i).toNat)
  case atStart => exact ⟨0, rfl, Nat.zero_le _, hS0⟩
  case round =>
    obtain ⟨i, rfl, hi, hS⟩ := hrel
    by_cases hlt : i < n
    · obtain ⟨wo, rfl⟩ : ∃ wo : World, wo = wr := ⟨_, rfl⟩
      clear hS0
      go_wp2
      go_loopw [45] (fun j W => ∃ k : Nat, j = .int .i64 k ∧ k ≤ m ∧ Sums w2 Bs N (sm x y m i k) W) (fun j _ => m - (intOf j).toNat)
      case atStart => exact ⟨0, rfl, Nat.zero_le _, hS⟩
      case round =>
        obtain ⟨j, rfl, hj, hT⟩ := hrel
        by_cases hjt : j < m
        · clear hS
          go_wp2
          have hb2 : Bd (162 * i + 162) (cadd (sm x y m i j (i + j)) (cmul (x i) (y j))) := by
            rw [← sm_same]
            exact sm_bd (fun j hj => (hx j hj).2) (fun j hj => (hy j hj).2) i (j + 1) (i + j) hlt hjt
          obtain ⟨r, hr, hP⟩ := productC (hx i hlt).1 (hy j hjt).1 (hx i hlt).2 (hy j hjt).2 (by decide)
          obtain ⟨hT1, hT2, hT3, hT4, s, hs⟩ := hT
          have hk : i + j < N := by omega
          obtain ⟨q, e1, e2, hq⟩ := (hs (i + j) hk).2.add hr hb2 (by omega)
          have e3 : ∀ t w, (binOp .add t (.complex .f32 (s (i + j)).1 (s (i + j)).2) (.complex .f32 r.1 r.2)).run Try.prog w = .ok (.complex .f32 q.1 q.2) w := fun t w =>
            run_complex_sum (P := Try.prog) w .add (Or.inl rfl) t .f32 _ _ _ _ _ _ (by simp [cSumBits, floatBits, FloatKind.format, e1, e2])
          have c1 : wr.cell? ⟨gx, i, none⟩ = some (.complex .f32 (za i).1 (za i).2) := (hT1.cell (p := ⟨gx, i, none⟩) (by rw [hBs]; exact hgx)).trans (hcx i hlt)
          have c2 : wr.cell? ⟨gy, j, none⟩ = some (.complex .f32 (zb j).1 (zb j).2) := (hT1.cell (p := ⟨gy, j, none⟩) (by rw [hBs]; exact hgy)).trans (hcy j hjt)
          have c3 : wr.cell? ⟨Bs, i + j, none⟩ = some (.complex .f32 (s (i + j)).1 (s (i + j)).2) := (hs (i + j) hk).1
          have f3 : wr.frozen? ⟨Bs, i + j, none⟩ = false := hT4 _ hk
          have hU : Sums w2 Bs N (sm x y m i (j + 1)) ((wr.setCell ⟨Bs, i + j, none⟩ (.complex .f32 q.1 q.2)).drew) :=
            (Sums.set (c := sm x y m i j) (r := q) hk ⟨hT1, hT2, hT3, hT4, s, hs⟩ (by rw [sm_same]; exact hq) (fun k _ hne => sm_other x y m i j k hne)).drew
          have HU := Lib.hid hU
          clear hU hs hT1 hT2 hT3 hT4 hq e1 e2 hb2 hr hcx hcy hx hy
          generalize (za i).1 = a1 at c1 hP
          generalize (za i).2 = a2 at c1 hP
          generalize (zb j).1 = a3 at c2 hP
          generalize (zb j).2 = a4 at c2 hP
          generalize (s (i + j)).1 = a5 at c3 e3
          generalize (s (i + j)).2 = a6 at c3 e3
          have w3 : IntKind.i64.wrap ((i : Int) + (j : Int)) = (i : Int) + j := IntWalk.i64_in _ (by omega)
          have w4 : ((i : Int) + (j : Int)).toNat = i + j := by omega
          have w5 : 0 ≤ (i : Int) + (j : Int) := by omega
          have w6 : (i : Int) + (j : Int) < (N : Int) := by omega
          go_still_tail 17, (by kernel_rfl)
          still_call ((hP _).mono fun _ _ h => ⟨h.1, h.2.symm⟩)
          repeat still_step
          refine wpStill_nil ?_
          change wpList _ _ _ _ _ wr.drew
          go_wp2
          go_roundw
          case rel => exact ⟨j + 1, by simp, by omega, HU.out⟩
          case measure => simp [intOf]; omega
        · obtain rfl : j = m := by omega
          go_wp2
          go_roundw
          case rel => exact ⟨i + 1, by simp, by omega, hT.to fun k => sm_row x y j i k⟩
          case measure => simp [intOf]; omega
    · obtain rfl : i = n := by omega
      clear hS0
      obtain ⟨hT1, hT2, hT3, hT4, s, hs⟩ := hS
      have e0 : ∀ k, sm x y m i 0 k = st x y m i k := fun k => by
        have : row x y i 0 k = (0, 0) := by simp [row]
        simp only [sm, this, cadd_zero]
      have hs1 : ∀ k, k < N → wr.cell? ⟨Bs, k, none⟩ = some (cV (s k)) := fun k hk => (hs k hk).1
      have hs2 : ∀ k, k < N → CV (s k) (st x y m i k) := fun k hk => by rw [← e0]; exact (hs k hk).2
      have hs3 : ∀ k, k < N → Num (s k).1 ∧ Num (s k).2 := fun k hk => (hs2 k hk).num
      clear hs e0 hx hy hcx hcy
      go_wp2_with fail
      refine (numbersP _ _ _ _ s ⟨by omega, by omega⟩ hT3 hs1 hs3).mono ?_
      rintro e w3 ⟨g', rfl, hn3, hB3⟩
      go_wp2
      go_ret2
      subst hN
      exact ⟨g', s, rfl, hn3, hs2, (hB.trans (hT1.mono hB.size)).trans (hB3.mono (Nat.le_trans hB.size hT1.size))⟩

/-- A list of at most three numbers: their words, and what these stand for. -/
def LN (W : World) (v : Value) (n : Nat) (c : Nat → Cx) : Prop :=
  ∃ zs : Nat → Nat × Nat, (n = 0 ∧ v = .slice none 0 0 ∨ 1 ≤ n ∧ ∃ g cap, v = .slice (some ⟨g, 0, none⟩) n cap ∧ n ≤ cap ∧ Nums W g n zs) ∧ ∀ j, j < n → CV (zs j) (c j)
theorem LN.below {w w' : World} {v : Value} {n : Nat} {c : Nat → Cx} (hB : Below w.heap.size w w') (h : LN w v n c) : LN w' v n c := by
  obtain ⟨zs, h, hc⟩ := h
  rcases h with h | ⟨h1, g, cap, hv, hle, hn⟩
  · exact ⟨zs, .inl h, hc⟩
  · exact ⟨zs, .inr ⟨h1, g, cap, hv, hle, hn.below hB⟩, hc⟩

set_option maxRecDepth 100000 in
set_option maxHeartbeats 2000000 in
theorem product_none (w : World) (a b : Value) (n m ca cb : Nat) (ga gb : Option Addr) (ha : a = .slice ga n ca) (hb : b = .slice gb m cb) (hn : n ≤ 3) (hm : m ≤ 3) (h0 : n = 0 ∨ m = 0) :
    Calls Try.prog 30 #[a, b] w fun e W' => e = .returned (.tuple #[.slice none 0 0, .int .i64 0]) ∧ w = W' := by
  subst ha hb
  by_cases h : n = 0
  · subst h
    go_enter Try.func30, Try.ntmps30
    go_wp2
    go_ret2
    exact ⟨rfl, rfl⟩
  · obtain rfl : m = 0 := by omega
    have t1 : ((n : Int) == 0) = false := by rw [beq_eq_false_iff_ne]; omega
    clear h h0
    go_enter Try.func30, Try.ntmps30
    go_wp2
    go_ret2
    exact ⟨rfl, rfl⟩

theorem productL (w : World) (a b : Value) (n m : Nat) (x y : Nat → Cx) (hn : n ≤ 3) (hm : m ≤ 3) (ha : LN w a n x) (hb : LN w b m y) (hx : ∀ j, j < n → Bd 9 (x j)) (hy : ∀ j, j < m → Bd 9 (y j)) :
    Calls Try.prog 30 #[a, b] w fun e W' => ∃ v, e = .returned (.tuple #[v, .int .i64 0]) ∧ LN W' v (pn n m) (st x y m n) ∧ Below w.heap.size w W' := by
  obtain ⟨za, ha, hza⟩ := ha
  obtain ⟨zb, hb, hzb⟩ := hb
  by_cases h0 : n = 0 ∨ m = 0
  · have ea : ∃ g c, a = .slice g n c := by
      rcases ha with ⟨h, rfl⟩ | ⟨-, g, c, rfl, -⟩
      · exact ⟨none, 0, by rw [h]⟩
      · exact ⟨_, _, rfl⟩
    have eb : ∃ g c, b = .slice g m c := by
      rcases hb with ⟨h, rfl⟩ | ⟨-, g, c, rfl, -⟩
      · exact ⟨none, 0, by rw [h]⟩
      · exact ⟨_, _, rfl⟩
    obtain ⟨g1, c1, e1⟩ := ea
    obtain ⟨g2, c2, e2⟩ := eb
    refine (product_none w a b n m c1 c2 g1 g2 e1 e2 hn hm h0).mono ?_
    rintro e W' ⟨rfl, rfl⟩
    have hp : pn n m = 0 := by unfold pn; rw [if_pos h0]
    exact ⟨_, rfl, ⟨za, .inl ⟨hp, rfl⟩, fun j hj => by omega⟩, Below.refl _ _⟩
  · obtain ⟨h, -⟩ | ⟨hn1, ga, ca, rfl, -, hna⟩ := ha
    · omega
    obtain ⟨h, -⟩ | ⟨hm1, gb, cb, rfl, -, hnb⟩ := hb
    · omega
    have hp : pn n m = n + m - 1 := by unfold pn; rw [if_neg h0]
    refine (product_some w ga gb n m ca cb za zb x y ⟨hn1, hn⟩ ⟨hm1, hm⟩ hna hnb (fun j hj => ⟨hza j hj, hx j hj⟩) (fun j hj => ⟨hzb j hj, hy j hj⟩)).mono ?_
    rintro e W' ⟨g, zs, rfl, hN, hc, hB⟩
    rw [hp]
    exact ⟨_, rfl, ⟨zs, .inr ⟨by omega, g, _, rfl, Nat.le_refl _, hN⟩, hc⟩, hB⟩
end Go.Proofs.Ytmhfdjognikilaa
