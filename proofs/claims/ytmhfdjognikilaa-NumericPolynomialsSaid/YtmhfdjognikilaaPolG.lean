/- Layer 16 (numeric), any words of F32: the reference's Polynomial. -/
import Derived.Test.YtmhfdjognikilaaPolD
import Derived.Test.YtmhfdjognikilaaPolE
namespace Go.Proofs.Ytmhfdjognikilaa
open Go.RowKit Go.Shelf

theorem raddW {p q : Nat × Nat} {x y : Wx} (hp : WV p x) (hq : WV q y) (w : World) : Gives 19 #[numV p.1 p.2, numV q.1 q.2] w (numV (wadd x y).1 (wadd x y).2) := by
  have h := radd_any p.1 p.2 q.1 q.2 w
  rw [hp.1, hp.2, hq.1, hq.2] at h
  exact h
theorem rmulW {p q : Nat × Nat} {x y : Wx} (hp : WV p x) (hq : WV q y) (w : World) : Gives 21 #[numV p.1 p.2, numV q.1 q.2] w (numV (wmul x y).1 (wmul x y).2) := by
  have h := rmul_any p.1 p.2 q.1 q.2 w
  rw [hp.1, hp.2, hq.1, hq.2] at h
  exact h
theorem wv_wmul (x y : Wx) : WV (wmul x y) (wmul x y) := ⟨cn_fop _ _ _, cn_fop _ _ _⟩
theorem wv_wadd (x y : Wx) : WV (wadd x y) (wadd x y) := ⟨cn_fop _ _ _, cn_fop _ _ _⟩

/-- What the reference's Polynomial holds between rounds. -/
def Ro (w : World) (a b : Nat) (o : Wx) (W : World) : Prop :=
  Below w.heap.size w W ∧ w.heap.size + 3 ≤ W.heap.size ∧ (W.cell? ⟨w.heap.size, 0, none⟩ = some (.int .u32 a) ∧ W.cell? ⟨w.heap.size, 1, none⟩ = some (.int .u32 b)) ∧ W.heap[w.heap.size + 1]? = some (.cells #[.int .u32 0, .int .u32 0] 38) ∧
  (W.cell? ⟨w.heap.size + 2, 0, none⟩ = some (.int .u32 o.1) ∧ W.cell? ⟨w.heap.size + 2, 1, none⟩ = some (.int .u32 o.2)) ∧ W.frozen? ⟨w.heap.size + 2, 0, none⟩ = false ∧ W.frozen? ⟨w.heap.size + 2, 1, none⟩ = false
theorem Ro.keep {w W W' : World} {a b : Nat} {o : Wx} (hB : Below W.heap.size W W') (h : Ro w a b o W) : Ro w a b o W' := by
  obtain ⟨h0, h1, ⟨h2, h3⟩, h4, ⟨h5, h6⟩, h7, h8⟩ := h
  have hs := hB.size
  exact ⟨h0.trans (hB.mono h0.size), by omega, ⟨(hB.cell (p := ⟨w.heap.size, 0, none⟩) (by simp; omega)).trans h2, (hB.cell (p := ⟨w.heap.size, 1, none⟩) (by simp; omega)).trans h3⟩, (hB.block _ (by omega)).trans h4,
    ⟨(hB.cell (p := ⟨w.heap.size + 2, 0, none⟩) (by simp; omega)).trans h5, (hB.cell (p := ⟨w.heap.size + 2, 1, none⟩) (by simp; omega)).trans h6⟩, (hB.frozen (p := ⟨w.heap.size + 2, 0, none⟩) (by simp; omega)).trans h7, (hB.frozen (p := ⟨w.heap.size + 2, 1, none⟩) (by simp; omega)).trans h8⟩
theorem Ro.drew {w W : World} {a b : Nat} {o : Wx} (h : Ro w a b o W) : Ro w a b o W.drew := h.keep (Below.refl _ _).drew
theorem Ro.set {w W : World} {a b : Nat} {o : Wx} (x y : Nat) (h : Ro w a b o W) : Ro w a b (x, y) ((W.setCell ⟨w.heap.size + 1 + 1, 0, none⟩ (.int .u32 x)).setCell ⟨w.heap.size + 1 + 1, 1, none⟩ (.int .u32 y)) := by
  obtain ⟨h0, h1, ⟨h2, h3⟩, h4, ⟨h5, h6⟩, h7, h8⟩ := h
  have q4 : ((W.setCell ⟨w.heap.size + 1 + 1, 0, none⟩ (.int .u32 x)).setCell ⟨w.heap.size + 1 + 1, 1, none⟩ (.int .u32 y)).heap[w.heap.size + 1]? = some (.cells #[.int .u32 0, .int .u32 0] 38) :=
    (Below.heap_setCell _ _ _ (w.heap.size + 1) (by simp)).trans ((Below.heap_setCell _ _ _ (w.heap.size + 1) (by simp)).trans h4)
  have q5 : (W.cell? ⟨w.heap.size + 2, 0, none⟩).isSome = true := by rw [h5]; rfl
  have q6 : (W.cell? ⟨w.heap.size + 2, 1, none⟩).isSome = true := by rw [h6]; rfl
  refine ⟨(h0.setCell (by simp; omega) _).setCell (by simp; omega) _, by simpa using h1, ?_, q4, ?_⟩
  · simp [go_sem, h2, h3]
  · clear h4 h5 h6 q4
    simp [go_sem, *]
theorem Ro.start {w : World} {a b : Nat} : Ro w a b (0, 0) (((w.alloc (.cells #[.int .u32 a, .int .u32 b] 38)).alloc (.cells #[.int .u32 0, .int .u32 0] 38)).alloc (.cells #[.int .u32 0, .int .u32 0] 38)) := by
  have h4 : (((w.alloc (.cells #[.int .u32 a, .int .u32 b] 38)).alloc (.cells #[.int .u32 0, .int .u32 0] 38)).alloc (.cells #[.int .u32 0, .int .u32 0] 38)).heap[w.heap.size + 1]? = some (.cells #[.int .u32 0, .int .u32 0] 38) := by
    have := World.alloc_heap_new (w.alloc (.cells #[.int .u32 a, .int .u32 b] 38)) (.cells #[.int .u32 0, .int .u32 0] 38)
    rw [World.size_alloc] at this
    exact (Below.heap_alloc _ _ _ (by simp)).trans this
  refine ⟨(((Below.refl _ _).alloc (Nat.le_refl _) _).alloc (by simp) _).alloc (by simp; omega) _, by simp, ?_, h4, ?_⟩
  · simp [go_sem]
  · simp [go_sem]

theorem set_far {W : World} {B g o : Nat} {x y : Value} (h : g ≠ B) : ((W.setCell ⟨B, 0, none⟩ x).setCell ⟨B, 1, none⟩ y).cell? ⟨g, o, none⟩ = W.cell? ⟨g, o, none⟩ := by
  rw [World.cell?_setCell_other _ _ _ _ (by intro e; cases e; exact h rfl), World.cell?_setCell_other _ _ _ _ (by intro e; cases e; exact h rfl)]
/-- The value behind k rounds. -/
def rout (c : Nat → Wx) (z : Wx) (n k : Nat) : Wx := if k = 0 then (0, 0) else horW c z (k - 1) (n - k)

theorem wv_horW (zs : Nat → Nat × Nat) (z : Wx) (r i : Nat) : WV (horW (fun j => cnp (zs j)) z r i) (horW (fun j => cnp (zs j)) z r i) := by
  cases r with
  | zero => exact wv_cnp _
  | succ r => exact wv_wadd _ _
/-- What a round of the reference's Polynomial holds. -/
def Rz (w : World) (g q p1 p2 a b : Nat) (o : Wx) (W : World) : Prop := Ro w a b o W ∧ g < W.heap.size ∧ W.cell? ⟨g, q * 2, none⟩ = some (.int .u32 p1) ∧ W.cell? ⟨g, q * 2 + 1, none⟩ = some (.int .u32 p2)
theorem Rz.keep {w W W' : World} {g q p1 p2 a b : Nat} {o : Wx} (hB : Below W.heap.size W W') (h : Rz w g q p1 p2 a b o W) : Rz w g q p1 p2 a b o W' :=
  ⟨h.1.keep hB, Nat.lt_of_lt_of_le h.2.1 hB.size, (hB.cell (p := ⟨g, q * 2, none⟩) h.2.1).trans h.2.2.1, (hB.cell (p := ⟨g, q * 2 + 1, none⟩) h.2.1).trans h.2.2.2⟩

set_option maxRecDepth 100000 in
set_option maxHeartbeats 4000000 in
theorem rpoly_any (w : World) (ga : Option Addr) (n cap a b : Nat) (zs : Nat → Nat × Nat) (hn : n ≤ 100) (hl : n = 0 ∨ ∃ g, ga = some ⟨g, 0, none⟩ ∧ Nums w g n zs) :
    Gives 29 #[.slice ga n cap, numV a b] w (numV (rout (fun j => cnp (zs j)) (cnp (a, b)) n n).1 (rout (fun j => cnp (zs j)) (cnp (a, b)) n n).2) := by
  go_enter Try.func29, Try.ntmps29
  have hR0 := Ro.start (w := w) (a := a) (b := b)
  go_wp2_with fail
  obtain ⟨W0, hW0⟩ : ∃ W0, (((w.alloc (.cells #[.int .u32 a, .int .u32 b] 38)).alloc (.cells #[.int .u32 0, .int .u32 0] 38)).alloc (.cells #[.int .u32 0, .int .u32 0] 38)) = W0 := ⟨_, rfl⟩
  rw [hW0] at hR0 ⊢
  clear hW0
  go_loopw [6] (fun i W => ∃ k q : Nat, k + q = n ∧ i = .int .i64 ((q : Int) - 1) ∧ Ro w a b (rout (fun j => cnp (zs j)) (cnp (a, b)) n k) W) (fun i _ => (intOf i + 1).toNat)
  case atStart => exact ⟨0, n, by omega, rfl, hR0⟩
  case round =>
    obtain ⟨k, q, hk, rfl, hR⟩ := hrel
    clear hR0
    cases q with
    | zero =>
      obtain rfl : k = n := by omega
      rw [show (((0 : Nat) : Int) - 1) = -1 from rfl]
      generalize hO : rout (fun j => cnp (zs j)) (cnp (a, b)) k k = O at hR ⊢
      have hR' := hR
      obtain ⟨h0, h1, ⟨h2, h3⟩, h4, ⟨h5, h6⟩, h7, h8⟩ := hR
      have q0 : wr.cell? ⟨w.heap.size + 1, 0, none⟩ = some (.int .u32 0) := by rw [(cell_cells h4).1]; rfl
      have q1 : wr.cell? ⟨w.heap.size + 1, 1, none⟩ = some (.int .u32 0) := by rw [(cell_cells h4).1]; rfl
      have f0 : wr.frozen? ⟨w.heap.size + 1, 0, none⟩ = false := (cell_cells (j := 0) h4).2
      have f1 : wr.frozen? ⟨w.heap.size + 1, 1, none⟩ = false := (cell_cells (j := 1) h4).2
      clear hl hR' h2 h3 h4
      go_wp2
      exact bodyPost_ret (v := numV O.1 O.2) (by simp [results, Try.results29, go_sem, q0, q1]) rfl ⟨by rw [hO], (h0.setCell (by simp) _).setCell (by simp) _⟩
    | succ q =>
      rw [show (((q + 1 : Nat) : Int) - 1) = (q : Int) by omega]
      obtain hl | ⟨g, rfl, hN⟩ := hl
      · omega
      have hgs : g < wr.heap.size := Nat.lt_of_lt_of_le hN.1 hR.1.size
      have c0 : wr.cell? ⟨g, q * 2, none⟩ = some (.int .u32 (zs q).1) := (hR.1.cell (p := ⟨g, q * 2, none⟩) hN.1).trans (hN.2 q (by omega)).1
      have c1 : wr.cell? ⟨g, q * 2 + 1, none⟩ = some (.int .u32 (zs q).2) := (hR.1.cell (p := ⟨g, q * 2 + 1, none⟩) hN.1).trans (hN.2 q (by omega)).2
      have hg := hN.1
      have hne : g ≠ w.heap.size + 1 + 1 := by omega
      have b1 : (0 : Int) ≤ (q : Int) := by omega
      have b2 : (q : Int) < (n : Int) := by omega
      clear hN
      by_cases hk0 : k = 0
      · subst hk0
        have t1 : ((q : Int) == (n : Int) - 1) = true := by rw [beq_iff_eq]; omega
        have HO := Lib.hid (show rout (fun j => cnp (zs j)) (cnp (a, b)) n 1 = (cn (zs q).1, cn (zs q).2) from by simp only [rout, Nat.one_ne_zero, if_false, Nat.sub_self, horW, show n - 1 = q by omega, cnp])
        have hR' : Ro w a b (0, 0) wr := by simpa [rout] using hR
        clear hR
        generalize (zs q).1 = p1 at *
        generalize (zs q).2 = p2 at *
        have HR := Lib.hid hR'
        clear hR'
        go_wp2_with fail
        go_region_held3 (fun W => W.cell? ⟨g, q * 2, none⟩ = some (.int .u32 p1) ∧ W.cell? ⟨g, q * 2 + 1, none⟩ = some (.int .u32 p2))
          (first | assumption | exact ⟨(set_far hne).trans (by assumption), (set_far hne).trans (by assumption)⟩ | go_keep)
          (first
            | (go_at_call 54; refine (rf_any _ _).mono ?_; rintro e w' ⟨rfl, rfl⟩)
            | (go_at_call 24; refine (rof_any _ _ _).mono ?_; rintro e w' ⟨rfl, hB'⟩; have hR1 := HR.out.drew.keep hB'; have HR1 := Lib.hid hR1; obtain ⟨-, h1, -, -, ⟨h5, h6⟩, h7, h8⟩ := hR1; have hq1 : w'.cell? ⟨g, q * 2, none⟩ = some (.int .u32 p1) := (hB'.cell (p := ⟨g, q * 2, none⟩) hgs).trans c0; have hq2 : w'.cell? ⟨g, q * 2 + 1, none⟩ = some (.int .u32 p2) := (hB'.cell (p := ⟨g, q * 2 + 1, none⟩) hgs).trans c1; have hq := And.intro hq1 hq2))
        all_goals go_wp2
        all_goals
          go_roundw
          case rel => exact ⟨1, q, by omega, by simp, by rw [HO.out]; exact HR1.out.set _ _⟩
          case measure => simp [intOf]
      · have t1 : ((q : Int) == (n : Int) - 1) = false := by rw [beq_eq_false_iff_ne]; omega
        have hO : WV (rout (fun j => cnp (zs j)) (cnp (a, b)) n k) (rout (fun j => cnp (zs j)) (cnp (a, b)) n k) := by
          simp only [rout, hk0, if_false]
          exact wv_horW _ _ _ _
        have HO := Lib.hid (show rout (fun j => cnp (zs j)) (cnp (a, b)) n (k + 1) = wadd (cnp (zs q)) (wmul (cnp (a, b)) (rout (fun j => cnp (zs j)) (cnp (a, b)) n k)) from by
          obtain ⟨k', rfl⟩ : ∃ k', k = k' + 1 := ⟨k - 1, by omega⟩
          simp only [rout, hk0, if_false, Nat.add_sub_cancel, horW, Nat.add_eq_zero_iff, Nat.one_ne_zero, and_false]
          rw [show n - (k' + 1 + 1) = q by omega, show n - (k' + 1) = q + 1 by omega])
        obtain ⟨P, hP⟩ : ∃ P, zs q = P := ⟨_, rfl⟩
        rw [hP] at c0 c1 HO
        generalize rout (fun j => cnp (zs j)) (cnp (a, b)) n k = O at hR hO HO
        obtain ⟨p1, p2⟩ := P
        have hZ : Rz w g q p1 p2 a b O wr.drew := (show Rz w g q p1 p2 a b O wr from ⟨hR, hgs, c0, c1⟩).keep (Below.refl _ _).drew
        obtain ⟨-, h1, ⟨h2, h3⟩, -, ⟨h5, h6⟩, h7, h8⟩ := hR
        have HT := Lib.hid (And.intro hk hk0)
        clear hP
        go_wp2_with fail
        go_region_with (first
          | (go_at_call 21; refine (rmulW (p := (a, b)) (cnp_wv (a, b)) hO _).mono ?_; rintro e w' ⟨rfl, hB'⟩; have hZ' := Rz.keep hB' (by assumption); obtain ⟨⟨-, h1, ⟨h2, h3⟩, -, ⟨h5, h6⟩, h7, h8⟩, -, k1, k2⟩ := id hZ')
          | (go_at_call 19; refine (raddW (p := (p1, p2)) (cnp_wv (p1, p2)) (wv_wmul _ _) _).mono ?_; rintro e w' ⟨rfl, hB'⟩; have hZ' := Rz.keep hB' (by assumption); obtain ⟨⟨-, h1, ⟨h2, h3⟩, -, ⟨h5, h6⟩, h7, h8⟩, -, k1, k2⟩ := id hZ'))
        all_goals go_wp2
        all_goals
          go_roundw
          case rel => exact ⟨k + 1, q, by omega, by simp, by rw [HO.out]; exact hZ'.1.set _ _⟩
          case measure => simp [intOf]
end Go.Proofs.Ytmhfdjognikilaa
