/- Layer 16 (numeric), any words of F32: the law of polynomials. -/
import Derived.Test.YtmhfdjognikilaaPolJ
import Derived.Test.YtmhfdjognikilaaFloL
import Derived.Deep.CutRange
namespace Go.Proofs.Ytmhfdjognikilaa
open Go.RowKit Go.Shelf

set_option maxRecDepth 100000 in
theorem polys_long (w : World) (ga gb : Option Addr) (n m ca cb x0 x1 : Nat) (h : 70 < n ∨ 70 < m) :
    Calls Try.prog 4 #[.slice ga n ca, .slice gb m cb, .agg #[.int .u32 x0, .int .u32 x1]] w fun e W' => e = .returned (.bool true) ∧ Below w.heap.size w W' := by
  by_cases h1 : 70 < n
  · have t1 : (70 : Int) < (n : Int) := by omega
    clear h h1
    go_enter Try.func4, Try.ntmps4
    go_wp2_with (go_at_call 27; refine (awake_any _).mono ?_; rintro e w' ⟨rfl, hB⟩)
    go_ret
    exact ⟨rfl, ((Below.refl _ _).alloc (Nat.le_refl _) _).trans (hB.mono (by simp))⟩
  · have t1 : ¬ (70 : Int) < (n : Int) := by omega
    have t2 : (70 : Int) < (m : Int) := by omega
    clear h h1
    go_enter Try.func4, Try.ntmps4
    go_wp2_with (go_at_call 27; refine (awake_any _).mono ?_; rintro e w' ⟨rfl, hB⟩)
    go_ret
    exact ⟨rfl, ((Below.refl _ _).alloc (Nat.le_refl _) _).trans (hB.mono (by simp))⟩

/-- What the law holds: its point in a box. -/
def Pt (w : World) (x0 x1 : Nat) (W : World) : Prop :=
  Below w.heap.size w W ∧ w.heap.size < W.heap.size ∧ W.cell? ⟨w.heap.size, 0, none⟩ = some (.int .u32 x0) ∧ W.cell? ⟨w.heap.size, 1, none⟩ = some (.int .u32 x1)
theorem Pt.keep {w W W' : World} {x0 x1 : Nat} (hB : Below W.heap.size W W') (h : Pt w x0 x1 W) : Pt w x0 x1 W' := by
  obtain ⟨h0, h1, h4, h5⟩ := h
  exact ⟨h0.trans (hB.mono h0.size), Nat.lt_of_lt_of_le h1 hB.size, (hB.cell (p := ⟨w.heap.size, 0, none⟩) h1).trans h4, (hB.cell (p := ⟨w.heap.size, 1, none⟩) h1).trans h5⟩
theorem Pt.fin {w W : World} {x0 x1 b : Nat} {u v : Value} (h : Pt w x0 x1 W) (hb : w.heap.size < b) (c0 : (W.cell? ⟨b, 0, none⟩).isSome = true) (c1 : (W.cell? ⟨b, 1, none⟩).isSome = true) :
    Pt w x0 x1 ((W.setCell ⟨b, 0, none⟩ u).setCell ⟨b, 1, none⟩ v) ∧ ((W.setCell ⟨b, 0, none⟩ u).setCell ⟨b, 1, none⟩ v).cell? ⟨b, 0, none⟩ = some u ∧ ((W.setCell ⟨b, 0, none⟩ u).setCell ⟨b, 1, none⟩ v).cell? ⟨b, 1, none⟩ = some v := by
  obtain ⟨h0, h1, h4, h5⟩ := h
  refine ⟨⟨(h0.setCell (p := ⟨b, 0, none⟩) (Nat.le_of_lt hb) _).setCell (p := ⟨b, 1, none⟩) (Nat.le_of_lt hb) _, by simpa using h1, ?_, ?_⟩, ?_, ?_⟩
  · rw [set_far (by omega)]; exact h4
  · rw [set_far (by omega)]; exact h5
  · rw [World.cell?_setCell_other _ _ _ _ (by intro e; cases e)]
    exact World.cell?_setCell_same' _ _ _ c0
  · obtain ⟨v0, h0⟩ := Option.isSome_iff_exists.1 c1
    obtain ⟨v', hv'⟩ := cell?_setCell_some (p := ⟨b, 0, none⟩) (x := u) h0
    exact World.cell?_setCell_same _ _ _ hv'
theorem Pt.new {w W : World} {x0 x1 : Nat} {u v : Value} {t : TypeId} (h : Pt w x0 x1 W) : Pt w x0 x1 (W.alloc (.cells #[u, v] t)) ∧ (W.alloc (.cells #[u, v] t)).cell? ⟨W.heap.size, 0, none⟩ = some u ∧ (W.alloc (.cells #[u, v] t)).cell? ⟨W.heap.size, 1, none⟩ = some v := by
  have hh := World.alloc_heap_new W (.cells #[u, v] t)
  exact ⟨h.keep ((Below.refl _ _).alloc (Nat.le_refl _) _), by rw [(cell_cells hh).1]; rfl, by rw [(cell_cells hh).1]; rfl⟩
theorem Inp.from {w W : World} {ga : Option Addr} {n : Nat} {zs : Nat → Nat × Nat} {x0 x1 : Nat} (h : Inp w ga n zs) (hP : Pt w x0 x1 W) : Inp W ga n zs := h.below hP.1
theorem LW.one {W : World} {v : Value} {x0 x1 : Nat} (h : LW W v 1 (fun _ => (x0, x1))) : ∃ g cp, v = .slice (some ⟨g, 0, none⟩) 1 cp ∧ g < W.heap.size ∧ W.cell? ⟨g, 0, none⟩ = some (.int .u32 x0) ∧ W.cell? ⟨g, 1, none⟩ = some (.int .u32 x1) := by
  rcases h with ⟨h, -⟩ | ⟨-, g, cp, rfl, -, hN⟩
  · cases h
  · have := hN.2 0 (by omega)
    exact ⟨g, cp, rfl, hN.1, by simpa using this.1, by simpa using this.2⟩
theorem BelowS.trans {a b c : World} (h : Below a.heap.size a b) (k : Below b.heap.size b c) : Below a.heap.size a c := h.trans (k.mono h.size)
theorem BelowS.alloc {a b : World} (h : Below a.heap.size a b) (o : Obj) : Below a.heap.size a (b.alloc o) := h.alloc h.size _
/-- Two words that have just been laid. -/
theorem inp_new {wz W : World} {b : Nat} {x0 x1 : Nat} (e : b = wz.heap.size) (h : Below (wz.alloc (.cells #[.int .u32 x0, .int .u32 x1] 23)).heap.size (wz.alloc (.cells #[.int .u32 x0, .int .u32 x1] 23)) W) : Inp W (some ⟨b, 0, none⟩) 1 (fun _ => (x0, x1)) := by
  subst e
  have hh := (h.block wz.heap.size (by simp)).trans (World.alloc_heap_new wz (.cells #[.int .u32 x0, .int .u32 x1] 23))
  refine .inr ⟨_, 0, rfl, (Array.getElem?_eq_some_iff.1 hh).1, fun j hj => ?_⟩
  obtain rfl : j = 0 := by omega
  exact ⟨by rw [(cell_cells hh).1]; rfl, by rw [(cell_cells hh).1]; rfl⟩
/-- A variable that has just been made. -/
theorem var_new {wz W : World} {t : TypeId} (h : Below (wz.alloc (.cells #[.int .u32 0, .int .u32 0] t)).heap.size (wz.alloc (.cells #[.int .u32 0, .int .u32 0] t)) W) : W.cell? ⟨wz.heap.size, 0, none⟩ = some (.int .u32 0) ∧ W.cell? ⟨wz.heap.size, 1, none⟩ = some (.int .u32 0) ∧ W.frozen? ⟨wz.heap.size, 0, none⟩ = false ∧ W.frozen? ⟨wz.heap.size, 1, none⟩ = false ∧ wz.heap.size < W.heap.size := by
  have hh := (h.block wz.heap.size (by simp)).trans (World.alloc_heap_new wz (.cells #[.int .u32 0, .int .u32 0] t))
  exact ⟨by rw [(cell_cells hh).1]; rfl, by rw [(cell_cells hh).1]; rfl, (cell_cells hh (j := 0)).2, (cell_cells hh (j := 1)).2, (Array.getElem?_eq_some_iff.1 hh).1⟩

/-- .. and the value of the program's polynomial. -/
def Ps (w : World) (x0 x1 b7 V0 V1 : Nat) (W : World) : Prop :=
  (w.heap.size < W.heap.size ∧ b7 < W.heap.size) ∧ Pt w x0 x1 W ∧ W.cell? ⟨b7, 0, none⟩ = some (.int .u32 V0) ∧ W.cell? ⟨b7, 1, none⟩ = some (.int .u32 V1)
theorem Ps.keep {w W W' : World} {x0 x1 b7 V0 V1 : Nat} (hB : Below W.heap.size W W') (h : Ps w x0 x1 b7 V0 V1 W) : Ps w x0 x1 b7 V0 V1 W' := by
  obtain ⟨⟨h0, h1⟩, h2, h4, h5⟩ := h
  exact ⟨⟨Nat.lt_of_lt_of_le h0 hB.size, Nat.lt_of_lt_of_le h1 hB.size⟩, h2.keep hB, (hB.cell (p := ⟨b7, 0, none⟩) h1).trans h4, (hB.cell (p := ⟨b7, 1, none⟩) h1).trans h5⟩
theorem Ps.fin {w W : World} {x0 x1 b7 V0 V1 b : Nat} {u v : Value} (h : Ps w x0 x1 b7 V0 V1 W) (hb : w.heap.size < b) (h7 : b7 ≠ b) (lb : b < W.heap.size) (c0 : (W.cell? ⟨b, 0, none⟩).isSome = true) (c1 : (W.cell? ⟨b, 1, none⟩).isSome = true) :
    Ps w x0 x1 b7 V0 V1 ((W.setCell ⟨b, 0, none⟩ u).setCell ⟨b, 1, none⟩ v) ∧ b < ((W.setCell ⟨b, 0, none⟩ u).setCell ⟨b, 1, none⟩ v).heap.size ∧ ((W.setCell ⟨b, 0, none⟩ u).setCell ⟨b, 1, none⟩ v).cell? ⟨b, 0, none⟩ = some u ∧ ((W.setCell ⟨b, 0, none⟩ u).setCell ⟨b, 1, none⟩ v).cell? ⟨b, 1, none⟩ = some v := by
  obtain ⟨h0, h2, h4, h5⟩ := h
  obtain ⟨k1, k2, k3⟩ := Pt.fin (u := u) (v := v) h2 hb c0 c1
  exact ⟨⟨by simpa using h0, k1, by rw [set_far h7]; exact h4, by rw [set_far h7]; exact h5⟩, by simpa using lb, k2, k3⟩
theorem Ps.new {w W : World} {x0 x1 b7 V0 V1 : Nat} {u v : Value} {t : TypeId} (h : Ps w x0 x1 b7 V0 V1 W) : Ps w x0 x1 b7 V0 V1 (W.alloc (.cells #[u, v] t)) ∧ W.heap.size < (W.alloc (.cells #[u, v] t)).heap.size ∧ (W.alloc (.cells #[u, v] t)).cell? ⟨W.heap.size, 0, none⟩ = some u ∧ (W.alloc (.cells #[u, v] t)).cell? ⟨W.heap.size, 1, none⟩ = some v :=
  ⟨h.keep ((Below.refl _ _).alloc (Nat.le_refl _) _), by simp, h.2.1.new.2⟩

set_option maxRecDepth 100000 in
set_option maxHeartbeats 40000000 in
theorem polys_walk (w : World) (ga gb : Option Addr) (n m ca cb : Nat) (zl zm : Nat → Nat × Nat) (x0 x1 : Nat) (hl : Inp w ga n zl) (hm : Inp w gb m zm) (hn : n ≤ 70) (hm70 : m ≤ 70) :
    Calls Try.prog 4 #[.slice ga n ca, .slice gb m cb, .agg #[.int .u32 x0, .int .u32 x1]] w fun e W' => e = .returned (.bool true) ∧ Below w.heap.size w W' := by
  have t1 : ¬ (70 : Int) < (n : Int) := by omega
  have t2 : ¬ (70 : Int) < (m : Int) := by omega
  have hn100 : n ≤ 100 := by omega
  have hm100 : m ≤ 100 := by omega
  have hP0 : Pt w x0 x1 (w.alloc (.cells #[.int .u32 x0, .int .u32 x1] 23)) := by
    have hB : Below w.heap.size w (w.alloc (.cells #[.int .u32 x0, .int .u32 x1] 23)) := (Below.refl _ _).alloc (Nat.le_refl _) _
    refine ⟨hB, by simp, ?_⟩
    simp [go_sem]
  go_enter Try.func4, Try.ntmps4
  go_upto_region 3 with fail
  generalize hW1 : w.alloc (.cells #[.int .u32 x0, .int .u32 x1] 23) = W1 at hP0 ⊢
  clear hW1
  have HL := Lib.hid (And.intro hl hm)
  clear hl hm
  go_cut [7] from 22 to 29 (fun s7 wx => ∃ b, s7 = .pointer (some ⟨b, 0, none⟩) ∧ Pt w x0 x1 wx ∧ wx.cell? ⟨b, 0, none⟩ = some (.int .u32 (pvW zl n x0 x1).1) ∧ wx.cell? ⟨b, 1, none⟩ = some (.int .u32 (pvW zl n x0 x1).2))
  case first =>
    obtain ⟨l0, kx0, kx1⟩ := hP0.2
    have hA : ∀ W, Pt w x0 x1 W → Calls Try.prog 9 #[.slice ga n ca] W fun e W' => ∃ v, e = .returned v ∧ LW W' v n zl ∧ Below W.heap.size W W' := fun W h => given_any W ga n ca zl hn100 (HL.out.1.from h)
    have hX : ∀ W b, Inp W (some ⟨b, 0, none⟩) 1 (fun _ => (x0, x1)) → Calls Try.prog 9 #[.slice (some ⟨b, 0, none⟩) 1 1] W fun e W' => ∃ g cp, e = .returned (.slice (some ⟨g, 0, none⟩) 1 cp) ∧ g < W'.heap.size ∧ W'.cell? ⟨g, 0, none⟩ = some (.int .u32 x0) ∧ W'.cell? ⟨g, 1, none⟩ = some (.int .u32 x1) ∧ Below W.heap.size W W' := fun W b h => (given_any W _ 1 1 _ (by decide) h).mono fun e W' he => by
      obtain ⟨v, rfl, hv, hB⟩ := he
      obtain ⟨g, cp, rfl, h1, h2, h3⟩ := hv.one
      exact ⟨g, cp, rfl, h1, h2, h3, hB⟩
    have hC : ∀ W v, LW W v n zl → Calls Try.prog 28 #[v, numV x0 x1] W fun e W' => e = .returned (numV (pvW zl n x0 x1).1 (pvW zl n x0 x1).2) ∧ Below W.heap.size W W' := fun W v h => polyLW W v n x0 x1 zl hn100 h
    go_region_with (first
      | (go_at_call 9; (with_reducible refine (hA _ ?_).mono ?_); (focus (exact Pt.keep (by (repeat first | exact Below.refl _ _ | assumption | refine BelowS.alloc ?_ _ | refine Below.drew ?_ | refine BelowS.trans ?_ (by assumption))) hP0)); rintro e wa ⟨vl, rfl, hvl, hBa⟩; have hPa : Pt w x0 x1 wa := Pt.keep (by (repeat first | exact Below.refl _ _ | assumption | refine BelowS.alloc ?_ _ | refine Below.drew ?_ | refine BelowS.trans ?_ (by assumption))) hP0; obtain ⟨l1, ka0, ka1⟩ := hPa.2)
      | (go_at_call 9; (with_reducible refine (hX _ _ (inp_new (wz := ?_) ?_ ?_)).mono ?_); rotate_left 2; (focus ((repeat first | exact Below.refl _ _ | assumption | refine BelowS.alloc ?_ _ | refine Below.drew ?_ | refine BelowS.trans ?_ (by assumption)); done)); rotate_left; (focus (first | rfl | simp)); rintro e wb ⟨g, cp, rfl, lg, kg0, kg1, hBb⟩; have hPb : Pt w x0 x1 wb := Pt.keep (by (repeat first | exact Below.refl _ _ | assumption | refine BelowS.alloc ?_ _ | refine Below.drew ?_ | refine BelowS.trans ?_ (by assumption))) hP0; obtain ⟨l2, kb0, kb1⟩ := hPb.2)
      | (go_at_call 28; (with_reducible refine (hC _ _ (LW.below ?_ hvl)).mono ?_); (focus ((repeat first | exact Below.refl _ _ | assumption | refine BelowS.alloc ?_ _ | refine Below.drew ?_ | refine BelowS.trans ?_ (by assumption)); done)); rintro e wc ⟨rfl, hBc⟩; have hPc : Pt w x0 x1 wc := Pt.keep (by (repeat first | exact Below.refl _ _ | assumption | refine BelowS.alloc ?_ _ | refine Below.drew ?_ | refine BelowS.trans ?_ (by assumption))) hP0;
         try (refine (fun qq => ?_) (var_new (wz := W1) (t := 32) (W := wc) ?_); rotate_left; (focus ((repeat first | exact Below.refl _ _ | assumption | refine BelowS.alloc ?_ _ | refine Below.drew ?_ | refine BelowS.trans ?_ (by assumption)); done)); (try simp only [World.size_alloc] at qq); obtain ⟨q0, q1, f0, f1, lb⟩ := qq);
         try (refine (fun qq => ?_) (var_new (wz := wa) (t := 32) (W := wc) ?_); rotate_left; (focus ((repeat first | exact Below.refl _ _ | assumption | refine BelowS.alloc ?_ _ | refine Below.drew ?_ | refine BelowS.trans ?_ (by assumption)); done)); (try simp only [World.size_alloc] at qq); obtain ⟨q0, q1, f0, f1, lb⟩ := qq);
         try (refine (fun qq => ?_) (var_new (wz := wb) (t := 32) (W := wc) ?_); rotate_left; (focus ((repeat first | exact Below.refl _ _ | assumption | refine BelowS.alloc ?_ _ | refine Below.drew ?_ | refine BelowS.trans ?_ (by assumption)); done)); (try simp only [World.size_alloc] at qq); obtain ⟨q0, q1, f0, f1, lb⟩ := qq);
         try (refine (fun qq => ?_) (var_new (wz := (W1.alloc (.cells #[.int .u32 x0, .int .u32 x1] 23))) (t := 32) (W := wc) ?_); rotate_left; (focus ((repeat first | exact Below.refl _ _ | assumption | refine BelowS.alloc ?_ _ | refine Below.drew ?_ | refine BelowS.trans ?_ (by assumption)); done)); (try simp only [World.size_alloc] at qq); obtain ⟨q0, q1, f0, f1, lb⟩ := qq);
         try (refine (fun qq => ?_) (var_new (wz := (wa.alloc (.cells #[.int .u32 x0, .int .u32 x1] 23))) (t := 32) (W := wc) ?_); rotate_left; (focus ((repeat first | exact Below.refl _ _ | assumption | refine BelowS.alloc ?_ _ | refine Below.drew ?_ | refine BelowS.trans ?_ (by assumption)); done)); (try simp only [World.size_alloc] at qq); obtain ⟨q0, q1, f0, f1, lb⟩ := qq)))
    all_goals go_wp2_with fail
    all_goals
      go_meet
      first
        | exact ⟨_, rfl, Pt.new hPc⟩
        | exact ⟨_, rfl, Pt.fin hPc (by omega) (by rw [q0]; rfl) (by rw [q1]; rfl)⟩
  case rest =>
    obtain ⟨b7, rfl, hP1, v0, v1⟩ := hcut
    have l7 : b7 < wc.heap.size := World.block_lt_of_cell? wc ⟨b7, 0, none⟩ v0
    obtain ⟨V, hV⟩ : ∃ V, pvW zl n x0 x1 = V := ⟨_, rfl⟩
    rw [hV] at v0 v1
    have hP2 : Ps w x0 x1 b7 V.1 V.2 wc := ⟨⟨hP1.2.1, l7⟩, hP1, v0, v1⟩
    clear hP0 hP1 v0 v1 l7
    go_upto_region 4 with fail
    generalize wc = W2 at hP2 ⊢
    go_cut [8] from 30 to 37 (fun s8 wx => ∃ b, s8 = .pointer (some ⟨b, 0, none⟩) ∧ Ps w x0 x1 b7 V.1 V.2 wx ∧ b < wx.heap.size ∧ wx.cell? ⟨b, 0, none⟩ = some (.int .u32 V.1) ∧ wx.cell? ⟨b, 1, none⟩ = some (.int .u32 V.2))
    case first =>
      obtain ⟨⟨l0, m0⟩, ⟨-, -, kx0, kx1⟩, -⟩ := id hP2
      have hA : ∀ W, Ps w x0 x1 b7 V.1 V.2 W → Calls Try.prog 10 #[.slice ga n ca] W fun e W' => ∃ v, e = .returned v ∧ LW W' v n zl ∧ Below W.heap.size W W' := fun W h => own_any W ga n ca zl hn100 (HL.out.1.from h.2.1)
      have hX : ∀ W b, Inp W (some ⟨b, 0, none⟩) 1 (fun _ => (x0, x1)) → Calls Try.prog 10 #[.slice (some ⟨b, 0, none⟩) 1 1] W fun e W' => ∃ g cp, e = .returned (.slice (some ⟨g, 0, none⟩) 1 cp) ∧ g < W'.heap.size ∧ W'.cell? ⟨g, 0, none⟩ = some (.int .u32 x0) ∧ W'.cell? ⟨g, 1, none⟩ = some (.int .u32 x1) ∧ Below W.heap.size W W' := fun W b h => (own_any W _ 1 1 _ (by decide) h).mono fun e W' he => by
        obtain ⟨v, rfl, hv, hB⟩ := he
        obtain ⟨g, cp, rfl, h1, h2, h3⟩ := hv.one
        exact ⟨g, cp, rfl, h1, h2, h3, hB⟩
      have hC : ∀ W v, LW W v n zl → Calls Try.prog 29 #[v, numV x0 x1] W fun e W' => e = .returned (numV V.1 V.2) ∧ Below W.heap.size W W' := fun W v h => by rw [← hV]; exact rpolyLW W v n x0 x1 zl hn100 h
      go_region_with (first
        | (go_at_call 10; (with_reducible refine (hA _ ?_).mono ?_); (focus (exact Ps.keep (by (repeat first | exact Below.refl _ _ | assumption | refine BelowS.alloc ?_ _ | refine Below.drew ?_ | refine BelowS.trans ?_ (by assumption))) hP2)); rintro e wa ⟨vl, rfl, hvl, hBa⟩; have hPa : Ps w x0 x1 b7 V.1 V.2 wa := Ps.keep (by (repeat first | exact Below.refl _ _ | assumption | refine BelowS.alloc ?_ _ | refine Below.drew ?_ | refine BelowS.trans ?_ (by assumption))) hP2; obtain ⟨⟨l1, m1⟩, ⟨-, -, ka0, ka1⟩, -⟩ := id hPa)
        | (go_at_call 10; (with_reducible refine (hX _ _ (inp_new (wz := ?_) ?_ ?_)).mono ?_); rotate_left 2; (focus ((repeat first | exact Below.refl _ _ | assumption | refine BelowS.alloc ?_ _ | refine Below.drew ?_ | refine BelowS.trans ?_ (by assumption)); done)); rotate_left; (focus (first | rfl | simp)); rintro e wb ⟨g, cp, rfl, lg, kg0, kg1, hBb⟩; have hPb : Ps w x0 x1 b7 V.1 V.2 wb := Ps.keep (by (repeat first | exact Below.refl _ _ | assumption | refine BelowS.alloc ?_ _ | refine Below.drew ?_ | refine BelowS.trans ?_ (by assumption))) hP2; obtain ⟨⟨l2, m2⟩, ⟨-, -, kb0, kb1⟩, -⟩ := id hPb)
        | (go_at_call 29; (with_reducible refine (hC _ _ (LW.below ?_ hvl)).mono ?_); (focus ((repeat first | exact Below.refl _ _ | assumption | refine BelowS.alloc ?_ _ | refine Below.drew ?_ | refine BelowS.trans ?_ (by assumption)); done)); rintro e wc ⟨rfl, hBc⟩; have hPc : Ps w x0 x1 b7 V.1 V.2 wc := Ps.keep (by (repeat first | exact Below.refl _ _ | assumption | refine BelowS.alloc ?_ _ | refine Below.drew ?_ | refine BelowS.trans ?_ (by assumption))) hP2;
           try (refine (fun qq => ?_) (var_new (wz := W2) (t := 38) (W := wc) ?_); rotate_left; (focus ((repeat first | exact Below.refl _ _ | assumption | refine BelowS.alloc ?_ _ | refine Below.drew ?_ | refine BelowS.trans ?_ (by assumption)); done)); (try simp only [World.size_alloc] at qq); obtain ⟨q0, q1, f0, f1, lb⟩ := qq);
           try (refine (fun qq => ?_) (var_new (wz := wa) (t := 38) (W := wc) ?_); rotate_left; (focus ((repeat first | exact Below.refl _ _ | assumption | refine BelowS.alloc ?_ _ | refine Below.drew ?_ | refine BelowS.trans ?_ (by assumption)); done)); (try simp only [World.size_alloc] at qq); obtain ⟨q0, q1, f0, f1, lb⟩ := qq);
           try (refine (fun qq => ?_) (var_new (wz := wb) (t := 38) (W := wc) ?_); rotate_left; (focus ((repeat first | exact Below.refl _ _ | assumption | refine BelowS.alloc ?_ _ | refine Below.drew ?_ | refine BelowS.trans ?_ (by assumption)); done)); (try simp only [World.size_alloc] at qq); obtain ⟨q0, q1, f0, f1, lb⟩ := qq);
           try (refine (fun qq => ?_) (var_new (wz := (W2.alloc (.cells #[.int .u32 x0, .int .u32 x1] 23))) (t := 38) (W := wc) ?_); rotate_left; (focus ((repeat first | exact Below.refl _ _ | assumption | refine BelowS.alloc ?_ _ | refine Below.drew ?_ | refine BelowS.trans ?_ (by assumption)); done)); (try simp only [World.size_alloc] at qq); obtain ⟨q0, q1, f0, f1, lb⟩ := qq);
           try (refine (fun qq => ?_) (var_new (wz := (wa.alloc (.cells #[.int .u32 x0, .int .u32 x1] 23))) (t := 38) (W := wc) ?_); rotate_left; (focus ((repeat first | exact Below.refl _ _ | assumption | refine BelowS.alloc ?_ _ | refine Below.drew ?_ | refine BelowS.trans ?_ (by assumption)); done)); (try simp only [World.size_alloc] at qq); obtain ⟨q0, q1, f0, f1, lb⟩ := qq)))
      all_goals go_wp2_with fail
      all_goals
        go_meet
        first
          | exact ⟨_, rfl, Ps.new hPc⟩
          | exact ⟨_, rfl, Ps.fin hPc (by omega) (by omega) lb (by rw [q0]; rfl) (by rw [q1]; rfl)⟩
    case rest =>
      obtain ⟨b8, rfl, hP3, l8, v2, v3⟩ := hcut
      generalize wc = W3 at hP3 l8 v2 v3 ⊢
      clear hP2
      have hI : ∀ W, Below W3.heap.size W3 W → Inp W ga n zl ∧ Inp W gb m zm := fun W h => ⟨HL.out.1.from (hP3.keep h).2.1, HL.out.2.from (hP3.keep h).2.1⟩
      go_wp2_with fail
      refine (given_any _ ga n ca zl hn100 (hI _ (Below.refl _ _)).1).mono ?_
      rintro e w1 ⟨vl, rfl, hvl, hB1⟩
      go_wp2_with fail
      refine (given_any _ gb m cb zm hm100 (hI _ hB1).2).mono ?_
      rintro e w2 ⟨vm, rfl, hvm, hB2⟩
      have hC2 := hB1.trans (hB2.mono hB1.size)
      go_wp2_with fail
      refine (prodsLW _ vl vm n m zl zm hn100 hm100 (hvl.below hB2) hvm).mono ?_
      rintro e w3 ⟨g1, c1, rfl, hI1, hB3⟩
      have hC3 := hC2.trans (hB3.mono hC2.size)
      clear hvl hvm hB1 hB2 hB3 hC2
      go_wp2_with fail
      refine (own_any _ ga n ca zl hn100 (hI _ hC3).1).mono ?_
      rintro e w4 ⟨vl', rfl, hvl, hB4⟩
      have hC4 := hC3.trans (hB4.mono hC3.size)
      have hJ4 := hI1.below hB4
      clear hI1
      go_wp2_with fail
      refine (own_any _ gb m cb zm hm100 (hI _ hC4).2).mono ?_
      rintro e w5 ⟨vm', rfl, hvm, hB5⟩
      have hC5 := hC4.trans (hB5.mono hC4.size)
      have hJ5 := hJ4.below hB5
      clear hJ4
      go_wp2_with fail
      refine (rprodsLW _ vl' vm' n m zl zm hn100 hm100 (hvl.below hB5) hvm).mono ?_
      rintro e w6 ⟨g2, c2, rfl, hI2, hB6⟩
      have hC6 := hC5.trans (hB6.mono hC5.size)
      have hJ6 := hJ5.below hB6
      clear hvl hvm hJ5 hB4 hB5 hB6 hC3 hC4 hC5
      have hbw : Below w.heap.size w w6 := (hP3.keep hC6).2.1.1
      obtain ⟨-, -, y0, y1⟩ := hP3.keep hC6
      have y2 := (hC6.cell (p := ⟨b8, 0, none⟩) l8).trans v2
      have y3 := (hC6.cell (p := ⟨b8, 1, none⟩) l8).trans v3
      have hpl : pln n m ≤ 200 := by unfold pln; split <;> omega
      obtain ⟨L, hL⟩ : ∃ L, pln n m = L := ⟨_, rfl⟩
      obtain ⟨E, hE⟩ : ∃ E, perr n m = E := ⟨_, rfl⟩
      rw [hL] at hpl hJ6 hI2 ⊢
      rw [hE]
      clear hL hE hI hP3 hC6 v2 v3 l8 HL
      go_wp2_with (first
        | (go_at_call 12; refine (alike_any _ g1 g2 L c1 c2 (prW zl zm n m) hpl hJ6 hI2).mono ?_; rintro e w7 ⟨rfl, hB7⟩)
        | (go_at_call 27; refine (awake_any _).mono ?_; rintro e w8 ⟨rfl, hB8⟩))
      go_ret
      exact ⟨rfl, (hbw.trans (hB7.mono hbw.size)).trans (hB8.mono (Nat.le_trans hbw.size hB7.size))⟩
end Go.Proofs.Ytmhfdjognikilaa
