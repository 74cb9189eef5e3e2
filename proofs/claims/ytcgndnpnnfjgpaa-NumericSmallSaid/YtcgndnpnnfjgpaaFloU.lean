/- Layer 16, part U. -/
import Derived.Test.YtcgndnpnnfjgpaaFloS
import Derived.Deep.DeepCutAuto
namespace Go.Proofs.Ytcgndnpnnfjgpaa
open Go.RowKit Go.Shelf

def xs (a b c : Int) (j : Nat) : Int := if j = 0 then a else if j = 1 then b else c

theorem mul_bd {a b : Int} {A B : Nat} (ha : a.natAbs ≤ A) (hb : b.natAbs ≤ B) : (a * b).natAbs ≤ A * B := by
  rw [Int.natAbs_mul]; exact Nat.mul_le_mul ha hb

theorem addB {a b c d : Nat} {n m p q : Int} (A B : Nat) (hn : n.natAbs ≤ A) (hm : m.natAbs ≤ A) (hp : p.natAbs ≤ B) (hq : q.natAbs ≤ B) (hAB : A + B < 2 ^ 24) (ha : Val a n) (hb : Val b m) (hc : Val c p) (hd : Val d q) (w : World) : Made 13 #[numV a b, numV c d] w (n + p) (m + q) :=
  addV ha hb hc hd w (by omega) (by omega)
theorem subB {a b c d : Nat} {n m p q : Int} (A B : Nat) (hn : n.natAbs ≤ A) (hm : m.natAbs ≤ A) (hp : p.natAbs ≤ B) (hq : q.natAbs ≤ B) (hAB : A + B < 2 ^ 24) (ha : Val a n) (hb : Val b m) (hc : Val c p) (hd : Val d q) (w : World) : Made 14 #[numV a b, numV c d] w (n - p) (m - q) :=
  subV ha hb hc hd w (by omega) (by omega)
theorem mulB {a b c d : Nat} {n m p q : Int} (A B : Nat) (hn : n.natAbs ≤ A) (hm : m.natAbs ≤ A) (hp : p.natAbs ≤ B) (hq : q.natAbs ≤ B) (hAB : 2 * (A * B) < 2 ^ 24) (ha : Val a n) (hb : Val b m) (hc : Val c p) (hd : Val d q) (w : World) : Made 15 #[numV a b, numV c d] w (n * p - m * q) (n * q + m * p) := by
  have h1 := mul_bd hn hp
  have h2 := mul_bd hm hq
  have h3 := mul_bd hn hq
  have h4 := mul_bd hm hp
  exact mulV ha hb hc hd w (by omega) (by omega) (by omega) (by omega) (by omega) (by omega)

/-- What the fourth region reads. -/
abbrev Rd (W0 : World) (p a b : Nat) (W : World) : Prop := Below W0.heap.size W0 W ∧ W.cell? ⟨p, 0, none⟩ = some (.int .u32 a) ∧ W.cell? ⟨p, 1, none⟩ = some (.int .u32 b)
theorem Rd.keep {W0 : World} {p a b : Nat} {W W' : World} (hB : Below W.heap.size W W') (h : Rd W0 p a b W) : Rd W0 p a b W' := by
  obtain ⟨h1, h2, h3⟩ := h
  have hp := cell_lt h2
  exact ⟨h1.trans (hB.mono h1.size), (hB.cell (p := ⟨p, 0, none⟩) hp).trans h2, (hB.cell (p := ⟨p, 1, none⟩) hp).trans h3⟩
theorem Rd.drew {W0 : World} {p a b : Nat} {W : World} (h : Rd W0 p a b W) : Rd W0 p a b W.drew := h.keep (Below.refl _ _).drew
theorem Rd.alloc {W0 : World} {p a b : Nat} {W : World} (o : Obj) (h : Rd W0 p a b W) : Rd W0 p a b (W.alloc o) := h.keep ((Below.refl _ _).alloc (Nat.le_refl _) _)
theorem Rd.set {W0 : World} {p a b g : Nat} {W : World} (hg : W0.heap.size ≤ g) (hp : p < W0.heap.size) (v1 v2 : Value) (h : Rd W0 p a b W) : Rd W0 p a b ((W.setCell ⟨g, 0, none⟩ v1).setCell ⟨g, 1, none⟩ v2) := by
  obtain ⟨h1, h2, h3⟩ := h
  have oth : ∀ i, ((W.setCell ⟨g, 0, none⟩ v1).setCell ⟨g, 1, none⟩ v2).cell? ⟨p, i, none⟩ = W.cell? ⟨p, i, none⟩ := fun i =>
    (World.cell?_setCell_other _ _ _ _ (by intro e; injection e; omega)).trans (World.cell?_setCell_other _ _ _ _ (by intro e; injection e; omega))
  exact ⟨(h1.setCell (p := ⟨g, 0, none⟩) hg _).setCell (p := ⟨g, 1, none⟩) hg _, (oth 0).trans h2, (oth 1).trans h3⟩

theorem stored2 {W : World} {b : Nat} {v0 v1 x0 x1 : Value} (h0 : W.cell? ⟨b, 0, none⟩ = some v0) (h1 : W.cell? ⟨b, 1, none⟩ = some v1) :
    ((W.setCell ⟨b, 0, none⟩ x0).setCell ⟨b, 1, none⟩ x1).cell? ⟨b, 0, none⟩ = some x0 ∧ ((W.setCell ⟨b, 0, none⟩ x0).setCell ⟨b, 1, none⟩ x1).cell? ⟨b, 1, none⟩ = some x1 := by
  constructor
  · exact (World.cell?_setCell_other _ _ _ _ (by intro e; cases e)).trans (World.cell?_setCell_same _ _ _ h0)
  · obtain ⟨v', hv'⟩ := cell?_setCell_some (p := ⟨b, 0, none⟩) (x := x0) h1
    exact World.cell?_setCell_same _ _ _ hv'

theorem val_zero : Val 0 0 := ⟨by decide, false, fun h => absurd rfl h, by kernel_rfl⟩

theorem bd {n : Int} {A : Nat} (h : n.natAbs ≤ A) : -(A : Int) ≤ n ∧ n ≤ A := by omega

theorem pow_wrap {j : Nat} (hj : j ≤ 7) : wrap64 (2 ^ j) = 2 ^ j ∧ ((2 : Int) ^ j).natAbs ≤ 128 := by
  have : j = 0 ∨ j = 1 ∨ j = 2 ∨ j = 3 ∨ j = 4 ∨ j = 5 ∨ j = 6 ∨ j = 7 := by omega
  rcases this with rfl | rfl | rfl | rfl | rfl | rfl | rfl | rfl <;> exact ⟨by kernel_rfl, by decide⟩

theorem inv_start (w : World) (a0 a1 b0 b1 c0 c1 : Int) : Inv w (xs a0 b0 c0) (xs a1 b1 c1) (Array.replicate 27 false) (fun _ => undef)
    { (((w.alloc (.cells #[.int .i16 a0, .int .i16 a1] 64)).alloc (.cells #[.int .i16 b0, .int .i16 b1] 64)).alloc (.cells #[.int .i16 c0, .int .i16 c1] 64)) with drawn := (((w.alloc (.cells #[.int .i16 a0, .int .i16 a1] 64)).alloc (.cells #[.int .i16 b0, .int .i16 b1] 64)).alloc (.cells #[.int .i16 c0, .int .i16 c1] 64)).drawn + 1 } := by
  have off : ∀ i, ¬ On (Array.replicate 27 false) i := by
    intro i h
    unfold On at h
    have e1 : (Array.replicate 27 false).getD i false = ((Array.replicate 27 false)[i]?).getD false := by simp
    rw [e1, Array.getElem?_replicate] at h
    split at h <;> cases h
  refine ⟨?_, by simp, ?_, fun _ _ _ _ h => absurd h (off _), fun _ _ h => absurd h (off _), fun _ _ _ _ _ h => absurd h (off _), fun _ _ h => absurd h (off _), fun _ _ h => absurd h (off _)⟩
  · exact (((Below.refl _ _).alloc (Nat.le_refl _) _).alloc (by simp) _).alloc (by simp; omega) _ |>.drew
  · intro j hj
    have : j = 0 ∨ j = 1 ∨ j = 2 := by omega
    show (((w.alloc (.cells #[.int .i16 a0, .int .i16 a1] 64)).alloc (.cells #[.int .i16 b0, .int .i16 b1] 64)).alloc (.cells #[.int .i16 c0, .int .i16 c1] 64)).cell? _ = _ ∧ (((w.alloc (.cells #[.int .i16 a0, .int .i16 a1] 64)).alloc (.cells #[.int .i16 b0, .int .i16 b1] 64)).alloc (.cells #[.int .i16 c0, .int .i16 c1] 64)).cell? _ = _
    rcases this with rfl | rfl | rfl <;> simp [go_sem, xs]

set_option maxRecDepth 100000 in
set_option maxHeartbeats 2000000 in
theorem numericSmall_walk (w : World) (a0 a1 b0 b1 c0 c1 k : Int) (ha0 : -32768 ≤ a0 ∧ a0 ≤ 32767) (ha1 : -32768 ≤ a1 ∧ a1 ≤ 32767) (hb0 : -32768 ≤ b0 ∧ b0 ≤ 32767) (hb1 : -32768 ≤ b1 ∧ b1 ≤ 32767) (hc0 : -32768 ≤ c0 ∧ c0 ≤ 32767) (hc1 : -32768 ≤ c1 ∧ c1 ≤ 32767) (hk : 0 ≤ k ∧ k < 256) :
    Calls Try.prog 6 #[pair a0 a1, pair b0 b1, pair c0 c1, .int .u8 k] w fun e W' => e = .returned (.bool true) ∧ Below w.heap.size w W' := by
  have hW : Words (xs a0 b0 c0) (xs a1 b1 c1) := by
    intro j hj
    have : j = 0 ∨ j = 1 ∨ j = 2 := by omega
    rcases this with rfl | rfl | rfl
    · exact ⟨ha0, ha1⟩
    · exact ⟨hb0, hb1⟩
    · exact ⟨hc0, hc1⟩
  go_enter Try.func6, Try.ntmps6
  go_wp2_with fail
  refine region_1 (w := w) (x := xs a0 b0 c0) (y := xs a1 b1 c1) (k := k) (u := fun _ => undef) hW (inv_start w a0 a1 b0 b1 c0 c1) ?_
  intro u W hS hbx hsz hB
  obtain ⟨pa, ar, ai, ea, la, var, vai, ca0, ca1⟩ := hS 0 (by omega)
  obtain ⟨pb, br, bi, eb, lb, vbr, vbi, cb0, cb1⟩ := hS 1 (by omega)
  obtain ⟨pc, cr, ci, ec, lc, vcr, vci, cc0, cc1⟩ := hS 2 (by omega)
  have ea' : u 9 = .pointer (some ⟨pa, 0, none⟩) := ea
  have eb' : u 10 = .pointer (some ⟨pb, 0, none⟩) := eb
  have ec' : u 11 = .pointer (some ⟨pc, 0, none⟩) := ec
  have var' : Val ar (a0.tmod 1001) := var
  have vai' : Val ai (a1.tmod 1001) := vai
  have vbr' : Val br (b0.tmod 1001) := vbr
  have vbi' : Val bi (b1.tmod 1001) := vbi
  have vcr' : Val cr (c0.tmod 1001) := vcr
  have vci' : Val ci (c1.tmod 1001) := vci
  have xa0 : W.cell? ⟨w.heap.size, 0, none⟩ = some (.int .i16 a0) := (hbx 0 (by omega)).1
  have xa1 : W.cell? ⟨w.heap.size, 1, none⟩ = some (.int .i16 a1) := (hbx 0 (by omega)).2
  have xb0 : W.cell? ⟨w.heap.size + 1, 0, none⟩ = some (.int .i16 b0) := (hbx 1 (by omega)).1
  have xb1 : W.cell? ⟨w.heap.size + 1, 1, none⟩ = some (.int .i16 b1) := (hbx 1 (by omega)).2
  clear hS hbx var vai vbr vbi vcr vci ea eb ec
  simp only [T, ea', eb', ec']
  go_wp2_with fail
  go_quiet (first | (go_at_call 40; exact quietSame (small_any _ _ ha0)) | (go_at_call 40; exact quietSame (small_any _ _ ha1)) | (go_at_call 40; exact quietSame (small_any _ _ hb0)) | (go_at_call 40; exact quietSame (small_any _ _ hb1)))
  go_wp2_with fail
  have la0 := small_le a0
  have la1 := small_le a1
  have lb0 := small_le b0
  have lb1 := small_le b1
  have lc0 := small_le c0
  have lc1 := small_le c1
  generalize a0.tmod 1001 = n0 at *
  generalize a1.tmod 1001 = n1 at *
  generalize b0.tmod 1001 = m0 at *
  generalize b1.tmod 1001 = m1 at *
  generalize c0.tmod 1001 = q0 at *
  generalize c1.tmod 1001 = q1 at *
  obtain ⟨j, hj⟩ : ∃ j, (k % 8).toNat = j := ⟨_, rfl⟩
  have hj7 : j ≤ 7 := by omega
  obtain ⟨hw, hp2⟩ := pow_wrap hj7
  rw [hj, hw]
  refine (mkV _ 0 _ (Nat.lt_of_le_of_lt hp2 (by decide)) (by decide)).mono ?_
  rintro e w1 ⟨pr, pi, vpr, vpi, rfl, hB1⟩
  go_wp2_with fail
  have hpa : pa < (w1.alloc (.cells #[.int .u32 pr, .int .u32 pi] 32)).heap.size := by have := hB1.size; simp at this ⊢; omega
  have hC : Below W.heap.size W (w1.alloc (.cells #[.int .u32 pr, .int .u32 pi] 32)) := ((below_drewN (Below.refl _ _) nq).trans (hB1.mono (by simp))).alloc (by have := hB1.size; simpa using this) _
  have hR : Rd (w1.alloc (.cells #[.int .u32 pr, .int .u32 pi] 32)) pa ar ai (w1.alloc (.cells #[.int .u32 pr, .int .u32 pi] 32)) :=
    ⟨Below.refl _ _, (hC.cell (p := ⟨pa, 0, none⟩) la).trans ca0, (hC.cell (p := ⟨pa, 1, none⟩) la).trans ca1⟩
  go_cut [17] (fun p wx => ∃ b re im, p = .pointer (some ⟨b, 0, none⟩) ∧ Val re (n0 * n0 - n1 * -n1) ∧ Val im (n0 * -n1 + n1 * n0) ∧ wx.cell? ⟨b, 0, none⟩ = some (.int .u32 re) ∧ wx.cell? ⟨b, 1, none⟩ = some (.int .u32 im) ∧ Below (w1.alloc (.cells #[.int .u32 pr, .int .u32 pi] 32)).heap.size (w1.alloc (.cells #[.int .u32 pr, .int .u32 pi] 32)) wx)
  case first =>
    obtain ⟨hR1, hR2, hR3⟩ := id hR
    have ln1 : (-n1).natAbs ≤ 1000 := by omega
    go_region_held3 (fun w' => Rd (w1.alloc (.cells #[.int .u32 pr, .int .u32 pi] 32)) pa ar ai w')
      (first | assumption | exact Rd.drew (by assumption) | exact Rd.alloc _ (by assumption) | exact Rd.keep (by assumption) (by assumption) | (refine Rd.set ?_ hpa _ _ (by assumption); first | (simp; done) | (have hz := hB2.size; simp at hz ⊢; omega)))
      (first
        | (go_at_call 17; refine (conjV var' vai' _).mono ?_; rintro e w2 ⟨p, q, hp, hq, rfl, hB2⟩; obtain ⟨hc2, hf2⟩ := bcell hB2)
        | (go_at_call 15; refine (mulB 1000 1000 la0 la1 la0 ln1 (by decide) var' vai' hp hq _).mono ?_; rintro e w3 ⟨p3, q3, hp3, hq3, rfl, hB3⟩; have hk3 := Rd.keep hB3 (by assumption); obtain ⟨hc3, hf3⟩ := bcell hB3
           first
             | (have hz := hB2.size
                simp at hz
                have g0 := (hc3 (w1.heap.size + 1) 0 (by omega)).trans (hc2 (w1.heap.size + 1) 0 (by simp))
                have g1 := (hc3 (w1.heap.size + 1) 1 (by omega)).trans (hc2 (w1.heap.size + 1) 1 (by simp))
                have f0 := (hf3 (w1.heap.size + 1) 0 (by omega)).trans (hf2 (w1.heap.size + 1) 0 (by simp))
                have f1 := (hf3 (w1.heap.size + 1) 1 (by omega)).trans (hf2 (w1.heap.size + 1) 1 (by simp))
                simp [go_sem] at g0 g1 f0 f1)
             | (have g0 := hc3 w2.heap.size 0 (by simp)
                have g1 := hc3 w2.heap.size 1 (by simp)
                have f0 := hf3 w2.heap.size 0 (by simp)
                have f1 := hf3 w2.heap.size 1 (by simp)
                simp [go_sem] at g0 g1 f0 f1)
             | skip))
    all_goals (go_wp2_with fail; go_meet)
    all_goals rename_i hH
    all_goals first
      | exact ⟨_, p3, q3, rfl, hp3, hq3, (cell_cells (World.alloc_heap_new _ _)).1, (cell_cells (World.alloc_heap_new _ _)).1, hH.1⟩
      | exact ⟨_, p3, q3, rfl, hp3, hq3, (stored2 g0 g1).1, (stored2 g0 g1).2, hH.1⟩
  case rest =>
    obtain ⟨px, re, im, rfl, hre, him, d0, d1, hD⟩ := hcut
    have hCD := hC.trans (hD.mono hC.size)
    have hBD := hB.trans (hCD.mono hB.size)
    have hp0 : wc.cell? ⟨w1.heap.size, 0, none⟩ = some (.int .u32 pr) := keeps hD ((cell_cells (World.alloc_heap_new _ _)).1)
    have hp1 : wc.cell? ⟨w1.heap.size, 1, none⟩ = some (.int .u32 pi) := keeps hD ((cell_cells (World.alloc_heap_new _ _)).1)
    have hT : Ten wc pa ar ai pb br bi pc cr ci w1.heap.size pr pi px re im wc :=
      ⟨Below.refl _ _, keeps hCD ca0, keeps hCD ca1, keeps hCD cb0, keeps hCD cb1, keeps hCD cc0, keeps hCD cc1, hp0, hp1, d0, d1⟩
    clear hR hD hCD hC hpa xa0 xa1 xb0 xb1 ca0 ca1 cb0 cb1 cc0 cc1 hB1 hp0 hp1
    go_wp2_with fail
    refine (partsV hre him _).mono ?_
    rintro e w5 ⟨rfl, hB5⟩
    go_wp2_with fail
    rename_i K6 hK6
    have hT5 := Ten.keep hB5 hT
    clear hT d0 d1
    have s0 : (m0 + q0).natAbs ≤ 2000 := by clear la0 la1 lb1 lc1 hp2; omega
    have s1 : (m1 + q1).natAbs ≤ 2000 := by clear la0 la1 lb0 lc0 hp2 s0; omega
    have him0 : Val im 0 := by
      have e : n0 * -n1 + n1 * n0 = 0 := by rw [Int.mul_neg, Int.mul_comm n1 n0]; clear la0 la1 lb0 lb1 lc0 lc1 hp2 s0 s1; omega
      rw [e] at him
      exact him
    have hre0 : Val re (n0 * n0 + n1 * n1) := by
      have e : n0 * n0 - n1 * -n1 = n0 * n0 + n1 * n1 := by rw [Int.mul_neg]; clear la0 la1 lb0 lb1 lc0 lc1 hp2 s0 s1; omega
      rw [e] at hre
      exact hre
    have hq : (FloatKind.f32.format.order im 0 == some .eq) = true := by have := him0.order val_zero; simp [FloatKind.format, this]
    have hOk : ({ W0 := wc, pa, ar, ai, pb, br, bi, pc, cr, ci, pp := w1.heap.size, pr, pi, px, re, im, j, n0, n1, m0, m1, q0, q1 } : Cx).Ok :=
      ⟨var', vai', vbr', vbi', vcr', vci', vpr, vpi, hre0, him0, hq, hj7, la0, la1,
        bd la0, bd la1, bd lb0, bd lb1, bd lc0, bd lc1, bd (A := 1000000) (mul_bd la0 lb0), bd (A := 1000000) (mul_bd la1 lb1), bd (A := 1000000) (mul_bd la0 lb1), bd (A := 1000000) (mul_bd la1 lb0),
        bd (A := 1000000) (mul_bd la0 lc0), bd (A := 1000000) (mul_bd la1 lc1), bd (A := 1000000) (mul_bd la0 lc1), bd (A := 1000000) (mul_bd la1 lc0), bd (A := 1000000) (mul_bd la0 la0), bd (A := 1000000) (mul_bd la1 la1),
        bd (A := 2000000) (mul_bd la0 s0), bd (A := 2000000) (mul_bd la1 s1), bd (A := 2000000) (mul_bd la0 s1), bd (A := 2000000) (mul_bd la1 s0), bd (A := 128000) (mul_bd la0 hp2), bd (A := 128000) (mul_bd la1 hp2)⟩
    have off : ∀ i, ¬ On (Array.replicate 102 false) i := by
      intro i h
      unfold On at h
      have e1 : (Array.replicate 102 false).getD i false = ((Array.replicate 102 false)[i]?).getD false := by simp
      rw [e1, Array.getElem?_replicate] at h
      split at h <;> cases h
    refine region_6 (c := { W0 := wc, pa, ar, ai, pb, br, bi, pc, cr, ci, pp := w1.heap.size, pr, pi, px, re, im, j, n0, n1, m0, m1, q0, q1 }) hOk ⟨rfl, rfl, ?_, Ten.keep (Below.refl _ _).drew hT5, fun _ _ ho => absurd ho (off _), fun ho => absurd ho (off _)⟩ ?_
    · intro d v hd
      unfold based at hd
      repeat' split at hd
      all_goals first | (rename_i e; subst e; cases hd; rfl) | cases hd
    · intro a' W' hd h8 hT6
      refine hK6 _ _ ?_
      refine wp_ret ?_
      refine bodyPost_ret (v := .bool true) ?_ hd ⟨rfl, hBD.trans (hT6.1.mono hBD.size)⟩
      rw [results_tmp (t := 8) rfl]
      exact congrArg (fun v => Result.ok v W') h8
end Go.Proofs.Ytcgndnpnnfjgpaa
