/- Layer 16 (numeric), products of polynomials: the law's own walk. -/
import Derived.Test.YtmhfdjognikilaaProF
namespace Go.Proofs.Ytmhfdjognikilaa
open Go.RowKit Go.Shelf

/-- The cells of three pairs lie in a block. -/
def Trip (W : World) (b : Nat) (l : Nat → Int × Int) : Prop :=
  W.cell? ⟨b, 0, none⟩ = some (.int .i8 (l 0).1) ∧ W.cell? ⟨b, 1, none⟩ = some (.int .i8 (l 0).2) ∧ W.cell? ⟨b, 2, none⟩ = some (.int .i8 (l 1).1) ∧ W.cell? ⟨b, 3, none⟩ = some (.int .i8 (l 1).2) ∧
  W.cell? ⟨b, 4, none⟩ = some (.int .i8 (l 2).1) ∧ W.cell? ⟨b, 5, none⟩ = some (.int .i8 (l 2).2)

theorem Trip.keep {W W' : World} {b : Nat} {l : Nat → Int × Int} (hb : b < W.heap.size) (hB : Below W.heap.size W W') (h : Trip W b l) : Trip W' b l := by
  obtain ⟨h0, h1, h2, h3, h4, h5⟩ := h
  exact ⟨(hB.cell (p := ⟨b, 0, none⟩) hb).trans h0, (hB.cell (p := ⟨b, 1, none⟩) hb).trans h1, (hB.cell (p := ⟨b, 2, none⟩) hb).trans h2, (hB.cell (p := ⟨b, 3, none⟩) hb).trans h3, (hB.cell (p := ⟨b, 4, none⟩) hb).trans h4, (hB.cell (p := ⟨b, 5, none⟩) hb).trans h5⟩
theorem Trip.new {W : World} {b : Nat} {l : Nat → Int × Int} (h : W.heap[b]? = some (.cells #[.int .i8 (l 0).1, .int .i8 (l 0).2, .int .i8 (l 1).1, .int .i8 (l 1).2, .int .i8 (l 2).1, .int .i8 (l 2).2] 77)) : Trip W b l :=
  ⟨(cell_cells h).1, (cell_cells h).1, (cell_cells h).1, (cell_cells h).1, (cell_cells h).1, (cell_cells h).1⟩

/-- The boxes of the arguments. -/
def Start (w : World) (a b : Nat → Int × Int) (x0 x1 : Int) (W : World) : Prop :=
  Below w.heap.size w W ∧ w.heap.size + 3 ≤ W.heap.size ∧ Trip W w.heap.size a ∧ Trip W (w.heap.size + 1) b ∧ W.cell? ⟨w.heap.size + 2, 0, none⟩ = some (.int .i8 x0) ∧ W.cell? ⟨w.heap.size + 2, 1, none⟩ = some (.int .i8 x1)
theorem Start.keep {w W W' : World} {a b : Nat → Int × Int} {x0 x1 : Int} (hB : Below W.heap.size W W') (h : Start w a b x0 x1 W) : Start w a b x0 x1 W' := by
  obtain ⟨h0, h1, h2, h3, h4, h5⟩ := h
  have := hB.size
  exact ⟨h0.trans (hB.mono h0.size), by omega, h2.keep (by omega) hB, h3.keep (by omega) hB, (hB.cell (p := ⟨w.heap.size + 2, 0, none⟩) (by simp; omega)).trans h4, (hB.cell (p := ⟨w.heap.size + 2, 1, none⟩) (by simp; omega)).trans h5⟩
theorem Start.new (w : World) (a b : Nat → Int × Int) (x0 x1 : Int) : Start w a b x0 x1 (((w.alloc (.cells #[.int .i8 (a 0).1, .int .i8 (a 0).2, .int .i8 (a 1).1, .int .i8 (a 1).2, .int .i8 (a 2).1, .int .i8 (a 2).2] 77)).alloc
    (.cells #[.int .i8 (b 0).1, .int .i8 (b 0).2, .int .i8 (b 1).1, .int .i8 (b 1).2, .int .i8 (b 2).1, .int .i8 (b 2).2] 77)).alloc (.cells #[.int .i8 x0, .int .i8 x1] 76)) := by
  refine ⟨(((Below.refl _ w).alloc (Nat.le_refl _) _).alloc (by simp) _).alloc (by simp; omega) _, by simp, Trip.new ?_, Trip.new ?_, ?_, ?_⟩
  · exact (Below.heap_alloc _ _ _ (by simp; omega)).trans ((Below.heap_alloc _ _ _ (by simp)).trans (World.alloc_heap_new w _))
  · refine (Below.heap_alloc _ _ _ (by simp)).trans ?_
    have h := World.alloc_heap_new (w.alloc (.cells #[.int .i8 (a 0).1, .int .i8 (a 0).2, .int .i8 (a 1).1, .int .i8 (a 1).2, .int .i8 (a 2).1, .int .i8 (a 2).2] 77)) (.cells #[.int .i8 (b 0).1, .int .i8 (b 0).2, .int .i8 (b 1).1, .int .i8 (b 1).2, .int .i8 (b 2).1, .int .i8 (b 2).2] 77)
    rwa [World.size_alloc] at h
  · simp [go_sem]
  · simp [go_sem]
theorem Start.drew {w W : World} {a b : Nat → Int × Int} {x0 x1 : Int} (h : Start w a b x0 x1 W) : Start w a b x0 x1 W.drew := ⟨h.1.drew, h.2⟩
/-- What the first region loads. -/
theorem Start.held {w W : World} {a b : Nat → Int × Int} {x0 x1 : Int} (h : Start w a b x0 x1 W) :
    W.cell? ⟨w.heap.size, 0, none⟩ = some (.int .i8 (a 0).1) ∧ W.cell? ⟨w.heap.size, 1, none⟩ = some (.int .i8 (a 0).2) ∧ W.cell? ⟨w.heap.size, 2, none⟩ = some (.int .i8 (a 1).1) ∧ W.cell? ⟨w.heap.size, 3, none⟩ = some (.int .i8 (a 1).2) ∧ W.cell? ⟨w.heap.size, 4, none⟩ = some (.int .i8 (a 2).1) ∧ W.cell? ⟨w.heap.size, 5, none⟩ = some (.int .i8 (a 2).2) ∧
    W.cell? ⟨w.heap.size + 1, 0, none⟩ = some (.int .i8 (b 0).1) ∧ W.cell? ⟨w.heap.size + 1, 1, none⟩ = some (.int .i8 (b 0).2) ∧ W.cell? ⟨w.heap.size + 1, 2, none⟩ = some (.int .i8 (b 1).1) ∧ W.cell? ⟨w.heap.size + 1, 3, none⟩ = some (.int .i8 (b 1).2) ∧ W.cell? ⟨w.heap.size + 1, 4, none⟩ = some (.int .i8 (b 2).1) ∧ W.cell? ⟨w.heap.size + 1, 5, none⟩ = some (.int .i8 (b 2).2) := by
  obtain ⟨-, -, ⟨a0, a1, a2, a3, a4, a5⟩, ⟨b0, b1, b2, b3, b4, b5⟩, -, -⟩ := h
  exact ⟨a0, a1, a2, a3, a4, a5, b0, b1, b2, b3, b4, b5⟩

/-- What the last region reads. -/
def Hold (w : World) (bz p0 p1 : Nat) (vr va vb : Value) (k M N : Nat) (cr ca cb : Nat → Cx) (W : World) : Prop :=
  (Below w.heap.size w W ∧ bz < W.heap.size) ∧ (W.cell? ⟨bz, 0, none⟩ = some (.int .u32 p0) ∧ W.cell? ⟨bz, 1, none⟩ = some (.int .u32 p1)) ∧ LN W vr k cr ∧ LN W va M ca ∧ LN W vb N cb
theorem Hold.keep {w W W' : World} {bz p0 p1 : Nat} {vr va vb : Value} {k M N : Nat} {cr ca cb : Nat → Cx} (hB : Below W.heap.size W W') (h : Hold w bz p0 p1 vr va vb k M N cr ca cb W) : Hold w bz p0 p1 vr va vb k M N cr ca cb W' := by
  obtain ⟨⟨h0, h1⟩, ⟨h2, h3⟩, h4, h5, h6⟩ := h
  have := hB.size
  exact ⟨⟨h0.trans (hB.mono h0.size), by omega⟩, ⟨(hB.cell (p := ⟨bz, 0, none⟩) h1).trans h2, (hB.cell (p := ⟨bz, 1, none⟩) h1).trans h3⟩, h4.below hB, h5.below hB, h6.below hB⟩
theorem Hold.drew {w W : World} {bz p0 p1 : Nat} {vr va vb : Value} {k M N : Nat} {cr ca cb : Nat → Cx} (h : Hold w bz p0 p1 vr va vb k M N cr ca cb W) : Hold w bz p0 p1 vr va vb k M N cr ca cb W.drew := h.keep (Below.refl _ W).drew
section
variable {w W : World} {bz p0 p1 : Nat} {vr va vb : Value} {k M N : Nat} {cr ca cb : Nat → Cx} {z : Cx}
theorem Hold.callR (h : Hold w bz p0 p1 vr va vb k M N cr ca cb W) (hk : k ≤ 5) (hb : ∀ j, j < k → Bd 486 (cr j)) (hz : CV (p0, p1) z) (hzb : Bd 3 z) :
    Calls Try.prog 28 #[vr, numV p0 p1] W fun e W' => ∃ p : Nat × Nat, CV p (pv cr z k) ∧ e = .returned (numV p.1 p.2) ∧ Below W.heap.size W W' := polyL W vr k p0 p1 cr z hk h.2.2.1 hb hz hzb
theorem Hold.callA (h : Hold w bz p0 p1 vr va vb k M N cr ca cb W) (hk : M ≤ 3) (hb : ∀ j, Bd 9 (ca j)) (hz : CV (p0, p1) z) (hzb : Bd 3 z) :
    Calls Try.prog 28 #[va, numV p0 p1] W fun e W' => ∃ p : Nat × Nat, (CV p (pv ca z M) ∧ Bd 387 (pv ca z M)) ∧ e = .returned (numV p.1 p.2) ∧ Below W.heap.size W W' :=
  (polyL W va M p0 p1 ca z (by omega) h.2.2.2.1 (fun j _ => (hb j).mono (by decide)) hz hzb).mono fun _ _ ⟨p, h1, h2⟩ => ⟨p, ⟨h1, pv_bd (fun j _ => hb j) hzb hk⟩, h2⟩
theorem Hold.callB (h : Hold w bz p0 p1 vr va vb k M N cr ca cb W) (hk : N ≤ 3) (hb : ∀ j, Bd 9 (cb j)) (hz : CV (p0, p1) z) (hzb : Bd 3 z) :
    Calls Try.prog 28 #[vb, numV p0 p1] W fun e W' => ∃ p : Nat × Nat, (CV p (pv cb z N) ∧ Bd 387 (pv cb z N)) ∧ e = .returned (numV p.1 p.2) ∧ Below W.heap.size W W' :=
  (polyL W vb N p0 p1 cb z (by omega) h.2.2.2.2 (fun j _ => (hb j).mono (by decide)) hz hzb).mono fun _ _ ⟨p, h1, h2⟩ => ⟨p, ⟨h1, pv_bd (fun j _ => hb j) hzb hk⟩, h2⟩
end
theorem mulC {p q : Nat × Nat} {a b : Cx} {A B : Nat} (h : CV p a ∧ Bd A a) (g : CV q b ∧ Bd B b) (hA : 2 * (A * B) < 16777216) (w : World) : Calls Try.prog 15 #[numV p.1 p.2, numV q.1 q.2] w fun e W' => ∃ r : Nat × Nat, CV r (cmul a b) ∧ e = .returned (numV r.1 r.2) ∧ Below w.heap.size w W' := by
  obtain ⟨r, hr, hP⟩ := productC h.1 g.1 h.2 g.2 hA
  refine (mul_any p.1 p.2 q.1 q.2 r.1 r.2 w h.1.num.1 h.1.num.2 g.1.num.1 g.1.num.2 hr.num.1 hr.num.2 hP).mono ?_
  rintro e W' ⟨he, hB⟩
  exact ⟨r, hr, he, hB⟩
theorem equalC {p q : Nat × Nat} {a : Cx} (h : CV p a) (g : CV q a) (w : World) : Gives 41 #[numV p.1 p.2, numV q.1 q.2] w (.bool true) := equalV h.1 h.2 g.1 g.2 w

set_option maxRecDepth 100000 in
set_option maxHeartbeats 4000000 in
theorem products_walk (w : World) (a b : Nat → Int × Int) (m n x0 x1 : Int) (ha : Small8 a) (hb : Small8 b) (hm : 0 ≤ m ∧ m < 256) (hn : 0 ≤ n ∧ n < 256) (hx0 : -128 ≤ x0 ∧ x0 ≤ 127) (hx1 : -128 ≤ x1 ∧ x1 ≤ 127) :
    Calls Try.prog 8 #[trip a, trip b, .int .u8 m, .int .u8 n, .agg #[.int .i8 x0, .int .i8 x1]] w fun e W' => e = .returned (.bool true) ∧ Below w.heap.size w W' := by
  go_enter Try.func8, Try.ntmps8
  go_wp2_with fail
  have hS := Start.new w a b x0 x1
  obtain ⟨w0, hw0⟩ : ∃ w0, ((w.alloc (.cells #[.int .i8 (a 0).1, .int .i8 (a 0).2, .int .i8 (a 1).1, .int .i8 (a 1).2, .int .i8 (a 2).1, .int .i8 (a 2).2] 77)).alloc
    (.cells #[.int .i8 (b 0).1, .int .i8 (b 0).2, .int .i8 (b 1).1, .int .i8 (b 1).2, .int .i8 (b 2).1, .int .i8 (b 2).2] 77)).alloc (.cells #[.int .i8 x0, .int .i8 x1] 76) = w0 := ⟨_, rfl⟩
  rw [hw0] at hS ⊢
  clear hw0
  have hH := hS.drew
  clear hS
  go_region_held3 (fun W => W.cell? ⟨w.heap.size, 0, none⟩ = some (.int .i8 (a 0).1) ∧ W.cell? ⟨w.heap.size, 1, none⟩ = some (.int .i8 (a 0).2) ∧ W.cell? ⟨w.heap.size, 2, none⟩ = some (.int .i8 (a 1).1) ∧ W.cell? ⟨w.heap.size, 3, none⟩ = some (.int .i8 (a 1).2) ∧ W.cell? ⟨w.heap.size, 4, none⟩ = some (.int .i8 (a 2).1) ∧ W.cell? ⟨w.heap.size, 5, none⟩ = some (.int .i8 (a 2).2) ∧
    W.cell? ⟨w.heap.size + 1, 0, none⟩ = some (.int .i8 (b 0).1) ∧ W.cell? ⟨w.heap.size + 1, 1, none⟩ = some (.int .i8 (b 0).2) ∧ W.cell? ⟨w.heap.size + 1, 2, none⟩ = some (.int .i8 (b 1).1) ∧ W.cell? ⟨w.heap.size + 1, 3, none⟩ = some (.int .i8 (b 1).2) ∧ W.cell? ⟨w.heap.size + 1, 4, none⟩ = some (.int .i8 (b 2).1) ∧ W.cell? ⟨w.heap.size + 1, 5, none⟩ = some (.int .i8 (b 2).2))
    (first | exact Start.held (by assumption))
    (first
      | (go_at_call 45; ((with_reducible refine (cut_any _ a m ha hm).mono ?_); rintro e wa ⟨va, rfl, hva, hBa⟩; have hSa := Start.keep hBa (by assumption)))
      | (go_at_call 45; ((with_reducible refine (cut_any _ b n hb hn).mono ?_); rintro e wb ⟨vb, rfl, hvb, hBb⟩; have hSb := Start.keep hBb (by assumption))))
  have hva1 := hva.below hBb
  obtain ⟨hW, hsz, -, -, k0, k1⟩ := hSb
  have c0 : wb.cell? ⟨w.heap.size + 1 + 1, 0, none⟩ = some (.int .i8 x0) := k0
  have c1 : wb.cell? ⟨w.heap.size + 1 + 1, 1, none⟩ = some (.int .i8 x1) := k1
  have hHeld := True.intro
  clear hva hBa hBb hSa hH k0 k1
  have hM : (m % 4).toNat ≤ 3 := by omega
  have hN : (n % 4).toNat ≤ 3 := by omega
  generalize (m % 4).toNat = M at hva1 hM
  generalize (n % 4).toNat = N at hvb hN
  have hz : Bd 3 (x0.tmod 4, x1.tmod 4) := ⟨tmod_le _ 4 (by decide), tmod_le _ 4 (by decide)⟩
  obtain ⟨z1, z2⟩ := hz.lt (by decide)
  go_wp2_with fail
  refine (mkV _ _ _ z1 z2).mono ?_
  rintro e w1 ⟨p0, p1, hp0, hp1, rfl, hB1⟩
  have hz' : CV (p0, p1) (x0.tmod 4, x1.tmod 4) := ⟨hp0, hp1⟩
  have hva2 := hva1.below hB1
  have hvb2 := hvb.below hB1
  have hW1 : Below w.heap.size w w1 := hW.trans (hB1.mono hW.size)
  clear hva1 hvb hB1 hW c0 c1 hsz hHeld hp0 hp1 z1 z2
  generalize ((x0.tmod 4, x1.tmod 4) : Cx) = z at hz hz'
  have hA : Below w1.heap.size w1 (w1.alloc (.cells #[.int .u32 p0, .int .u32 p1] 32)) := (Below.refl _ _).alloc (Nat.le_refl _) _
  have hva3 := hva2.below hA
  have hvb3 := hvb2.below hA
  have hW2 := hW1.trans (hA.mono hW1.size)
  have hZ := World.alloc_heap_new w1 (.cells #[.int .u32 p0, .int .u32 p1] 32)
  go_wp2_with fail
  refine (productL _ _ _ _ _ _ _ hM hN hva3 hvb3 (fun j _ => coef_bd a j) (fun j _ => coef_bd b j)).mono ?_
  rintro e w2 ⟨vr, rfl, hvr, hB2⟩
  have hva4 := hva3.below hB2
  have hvb4 := hvb3.below hB2
  have hW3 := hW2.trans (hB2.mono hW2.size)
  have hZ2 := (hB2.block w1.heap.size (by simp)).trans hZ
  have lZ : w1.heap.size < w2.heap.size := (Array.getElem?_eq_some_iff.1 hZ2).1
  obtain ⟨bz, hbz⟩ : ∃ bz, w1.heap.size = bz := ⟨_, rfl⟩
  rw [hbz] at hZ2 lZ ⊢
  have c0 : w2.cell? ⟨bz, 0, none⟩ = some (.int .u32 p0) := by rw [(cell_cells hZ2).1]; rfl
  have c1 : w2.cell? ⟨bz, 1, none⟩ = some (.int .u32 p1) := by rw [(cell_cells hZ2).1]; rfl
  clear hva2 hvb2 hva3 hvb3 hB2 hW1 hW2 hA hZ hZ2 hbz
  have hG : Hold w bz p0 p1 vr va vb (pn M N) M N (st (coef a) (coef b) N M) (coef a) (coef b) w2 := ⟨⟨hW3, lZ⟩, ⟨c0, c1⟩, hvr, hva4, hvb4⟩
  have hpn : pn M N ≤ 5 := by unfold pn; split <;> omega
  have hcr : ∀ j, j < pn M N → Bd 486 (st (coef a) (coef b) N M j) := fun j _ => (st_bd (n := M) (m := N) (fun j _ => coef_bd a j) (fun j _ => coef_bd b j) j M (Nat.le_refl _)).mono (by omega)
  have hv := value_of_product (coef a) (coef b) z M N hM hN
  have HV := Lib.hid hv
  have hca : ∀ j, Bd 9 (coef a j) := coef_bd a
  have hcb : ∀ j, Bd 9 (coef b j) := coef_bd b
  clear hv hW3 lZ c0 c1 hvr hva4 hvb4
  have hG0 := hG.drew
  clear hG
  go_wp2_with fail
  go_region_held3 (fun W => W.cell? ⟨bz, 0, none⟩ = some (.int .u32 p0) ∧ W.cell? ⟨bz, 1, none⟩ = some (.int .u32 p1))
    (first | exact (Hold.drew (by assumption)).2.1 | exact (show Hold w bz p0 p1 vr va vb (pn M N) M N (st (coef a) (coef b) N M) (coef a) (coef b) _ by assumption).2.1)
    (first
      | (go_at_call 28; ((with_reducible refine (Hold.callR (show Hold w bz p0 p1 vr va vb (pn M N) M N (st (coef a) (coef b) N M) (coef a) (coef b) _ by assumption) hpn hcr hz' hz).mono ?_); rintro e wr ⟨pr, hpr, rfl, hBr⟩; have hGr := Hold.keep hBr (show Hold w bz p0 p1 vr va vb (pn M N) M N (st (coef a) (coef b) N M) (coef a) (coef b) _ by assumption)))
      | (go_at_call 28; ((with_reducible refine (Hold.callA (show Hold w bz p0 p1 vr va vb (pn M N) M N (st (coef a) (coef b) N M) (coef a) (coef b) _ by assumption) hM hca hz' hz).mono ?_); rintro e wp ⟨pa, hpa, rfl, hBa⟩; have hGa := Hold.keep hBa (show Hold w bz p0 p1 vr va vb (pn M N) M N (st (coef a) (coef b) N M) (coef a) (coef b) _ by assumption)))
      | (go_at_call 28; ((with_reducible refine (Hold.callB (show Hold w bz p0 p1 vr va vb (pn M N) M N (st (coef a) (coef b) N M) (coef a) (coef b) _ by assumption) hN hcb hz' hz).mono ?_); rintro e wq ⟨pb, hpb, rfl, hBb⟩; have hGb := Hold.keep hBb (show Hold w bz p0 p1 vr va vb (pn M N) M N (st (coef a) (coef b) N M) (coef a) (coef b) _ by assumption)))
      | (go_at_call 15; ((refine (mulC hpa hpb (by decide) _).mono ?_); rintro e wm ⟨pm, hpm, rfl, hBm⟩; have hGm := Hold.keep hBm (show Hold w bz p0 p1 vr va vb (pn M N) M N (st (coef a) (coef b) N M) (coef a) (coef b) _ by assumption)))
      | (go_at_call 41; ((refine (equalC (by rw [HV.out] at hpr; exact hpr) hpm _).mono ?_); rintro e wo ⟨rfl, hBo⟩; have hGo := Hold.keep hBo (show Hold w bz p0 p1 vr va vb (pn M N) M N (st (coef a) (coef b) N M) (coef a) (coef b) _ by assumption)))
      | (go_at_call 27; ((refine (awake_any _).mono ?_); rintro e wy ⟨rfl, hBy⟩; have hGy := Hold.keep hBy (show Hold w bz p0 p1 vr va vb (pn M N) M N (st (coef a) (coef b) N M) (coef a) (coef b) _ by assumption))))
  go_wp2
  go_ret
  exact ⟨rfl, hGy.1.1⟩
end Go.Proofs.Ytmhfdjognikilaa
