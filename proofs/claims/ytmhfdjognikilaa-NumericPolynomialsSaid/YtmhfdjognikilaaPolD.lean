/- Layer 16 (numeric), any words of F32: numeric.Polynomial at lists of 1 to 100 numbers. -/
import Derived.Test.YtmhfdjognikilaaProE
import Derived.Test.YtmhfdjognikilaaPolC
namespace Go.Proofs.Ytmhfdjognikilaa
open Go.RowKit Go.Shelf

attribute [local go_sem] Oper.semAt_some
attribute [local go_sem] run_cadd

theorem cnp_wv (p : Nat × Nat) : WV p (cnp p) := ⟨rfl, rfl⟩
theorem wv_cnp (p : Nat × Nat) : WV (cnp p) (cnp p) := ⟨cn_cn _, cn_cn _⟩
theorem WV.to {p : Nat × Nat} {x : Wx} (h : WV p x) : cnp p = x := Prod.ext h.1 h.2
theorem WV.wadd {p q : Nat × Nat} {x y : Wx} (hp : WV p x) (hq : WV q y) (w1 w2 : World) : WV (fR .add p.1 q.1 w1, fR .add p.2 q.2 w2) (wadd x y) := ⟨fop_of oa hp.1 hq.1 _, fop_of oa hp.2 hq.2 _⟩
theorem product_W {p q : Nat × Nat} {x y : Wx} (hp : WV p x) (hq : WV q y) (w : World) : Calls Try.prog 49 #[.complex .f32 p.1 p.2, .complex .f32 q.1 q.2] w fun e w' => ∃ r : Nat × Nat, e = .returned (.complex .f32 r.1 r.2) ∧ WV r (wmul x y) ∧ Below w.heap.size w w' := by
  refine (product_cn hp hq w).mono ?_
  rintro e w' ⟨r, h1, h2, n, rfl⟩
  exact ⟨r, h1, h2, below_drewN (Below.refl _ _) _⟩

/-- What the iterator hands over. -/
structure EltW where
  j : Int
  p : Nat × Nat
def foldW (z s : Wx) (l : List EltW) : Wx := l.foldl (fun a e => wadd (cnp e.p) (wmul z a)) s
theorem foldW_snoc (z s : Wx) (l : List EltW) (e : EltW) : foldW z s (l ++ [e]) = wadd (cnp e.p) (wmul z (foldW z s l)) := by simp [foldW]
/-- The value of a polynomial, from the last coefficient on. -/
def horW (c : Nat → Wx) (z : Wx) : Nat → Nat → Wx
  | 0, i => c i
  | r + 1, i => wadd (c i) (wmul z (horW c z r (i + 1)))
theorem foldW_hor (z : Wx) (zs : Nat → Nat × Nat) (m : Nat) : ∀ k, k ≤ m → foldW z (cnp (zs m)) (upto (fun t => (⟨((m - 1 - t : Nat) : Int), zs (m - 1 - t)⟩ : EltW)) k) = horW (fun j => cnp (zs j)) z k (m - k)
  | 0, _ => rfl
  | k + 1, h => by
    rw [upto_succ, foldW_snoc, foldW_hor z zs m k (by omega), horW]
    simp only
    rw [show m - 1 - k = m - (k + 1) by omega, show m - (k + 1) + 1 = m - k by omega]

/-- What a round holds: the cells that it reads. -/
def Hd (W : World) (bA r Bx a b s1 s2 p1 p2 : Nat) (u : World) : Prop :=
  Below W.heap.size W u ∧ (bA < u.heap.size ∧ r < u.heap.size ∧ Bx < u.heap.size) ∧ u.cell? ⟨bA, 0, none⟩ = some (.complex .f32 a b) ∧ u.cell? ⟨r, 0, none⟩ = some (.complex .f32 s1 s2) ∧ u.frozen? ⟨r, 0, none⟩ = false ∧ u.cell? ⟨Bx, 0, none⟩ = some (.int .u32 p1) ∧ u.cell? ⟨Bx, 1, none⟩ = some (.int .u32 p2)
theorem Hd.keep {W : World} {bA r Bx a b s1 s2 p1 p2 : Nat} {u u' : World} (hB : Below u.heap.size u u') (h : Hd W bA r Bx a b s1 s2 p1 p2 u) : Hd W bA r Bx a b s1 s2 p1 p2 u' := by
  obtain ⟨h0, ⟨l1, l2, l3⟩, h1, h2, h3, h4, h5⟩ := h
  have hs := hB.size
  exact ⟨h0.trans (hB.mono h0.size), ⟨by omega, by omega, by omega⟩, (hB.cell (p := ⟨bA, 0, none⟩) l1).trans h1, (hB.cell (p := ⟨r, 0, none⟩) l2).trans h2, (hB.frozen (p := ⟨r, 0, none⟩) l2).trans h3, (hB.cell (p := ⟨Bx, 0, none⟩) l3).trans h4, (hB.cell (p := ⟨Bx, 1, none⟩) l3).trans h5⟩
theorem Hd.drew {W : World} {bA r Bx a b s1 s2 p1 p2 : Nat} {u : World} (h : Hd W bA r Bx a b s1 s2 p1 p2 u) : Hd W bA r Bx a b s1 s2 p1 p2 u.drew := h.keep (Below.refl _ _).drew

theorem round_endW {r : Nat} {W0 W w' : World} {u : Value} (v : Value) (hBB : BB W0.heap.size r W0 W) (bS : Boxed W r 83 u) (hB1 : Below W.heap.size W w') :
    KeepsFrom W0.heap.size W (w'.setCell ⟨r, 0, none⟩ v) ∧ BB W0.heap.size r W (w'.setCell ⟨r, 0, none⟩ v) ∧ Boxed (w'.setCell ⟨r, 0, none⟩ v) r 83 v ∧ BB W0.heap.size r W0 (w'.setCell ⟨r, 0, none⟩ v) := by
  have h1 : BB W0.heap.size r W (w'.setCell ⟨r, 0, none⟩ v) := (BB.of_below hB1 hBB.size).setCell 0 v
  have h2 : KeepsFrom W0.heap.size W w' := ⟨hB1.size, fun k o _ hk _ => (hB1.block k (Array.getElem?_eq_some_iff.1 hk).1).trans hk⟩
  exact ⟨h2.trans ((KeepsOthers.setCell _ _ _).from _), h1, (Boxed.below bS hB1).set v, hBB.trans h1⟩

set_option maxRecDepth 100000 in
set_option maxHeartbeats 4000000 in
theorem polyW (w : World) (g n cap a b : Nat) (zs : Nat → Nat × Nat) (hn : 1 ≤ n ∧ n ≤ 100) (hcap : n ≤ cap) (hl : Nums w g n zs) :
    Calls Try.prog 28 #[.slice (some ⟨g, 0, none⟩) n cap, numV a b] w fun e W' => e = .returned (numV (horW (fun j => cnp (zs j)) (cnp (a, b)) (n - 1) 0).1 (horW (fun j => cnp (zs j)) (cnp (a, b)) (n - 1) 0).2) ∧ Below w.heap.size w W' := by
  refine (callsIn_wide (n := 5)).1 ?_
  obtain ⟨hn1, hn2⟩ := hn
  obtain ⟨m, rfl⟩ : ∃ m, n = m + 1 := ⟨n - 1, by omega⟩
  have t1 : (((m + 1 : Nat) : Int) == 0) = false := by rw [beq_eq_false_iff_ne]; omega
  have t2 : (((m + 1 : Nat) : Int) - 1) = (m : Int) := by omega
  have hro : Fence.wide.round = none := rfl
  refine callsIn_of_wp_marks Try.func28 rfl trivial ?_ hro
  simp only [Try.ntmps28, List.size_toArray, List.length_cons, List.length_nil, Nat.reduceAdd, Nat.reduceSub, Array.replicate_succ, Array.replicate_zero, List.push_toArray, List.append_toArray, List.nil_append, List.cons_append]
  have hz : WV (cn a, cn b) (cnp (a, b)) := wv_cnp (a, b)
  obtain ⟨z, hzz⟩ : ∃ z, cnp (a, b) = z := ⟨_, rfl⟩
  rw [hzz] at hz ⊢
  clear hzz
  have hl' := hl
  have hBa : Below w.heap.size w ((w.alloc (.cells #[.int .u32 a, .int .u32 b] 32)).alloc (.cells #[.int .u32 0, .int .u32 0] 32)) := ((Below.refl _ w).alloc (Nat.le_refl _) _).alloc (by simp) _
  have hRa : ((w.alloc (.cells #[.int .u32 a, .int .u32 b] 32)).alloc (.cells #[.int .u32 0, .int .u32 0] 32)).heap[w.heap.size + 1]? = some (.cells #[.int .u32 0, .int .u32 0] 32) := by
    have := World.alloc_heap_new (w.alloc (.cells #[.int .u32 a, .int .u32 b] 32)) (.cells #[.int .u32 0, .int .u32 0] 32)
    rwa [World.size_alloc] at this
  have hsa : ((w.alloc (.cells #[.int .u32 a, .int .u32 b] 32)).alloc (.cells #[.int .u32 0, .int .u32 0] 32)).heap.size = w.heap.size + 2 := by simp
  gi_wp2_with fail
  obtain ⟨wa, hwa⟩ : ∃ wa, (w.alloc (.cells #[.int .u32 a, .int .u32 b] 32)).alloc (.cells #[.int .u32 0, .int .u32 0] 32) = wa := ⟨_, rfl⟩
  rw [hwa] at hBa hRa hsa ⊢
  clear hwa
  refine ⟨trivial, ?_⟩
  gi_at_call 48
  refine (callsIn_wide.2 (value_cn _ _ _)).mono ?_
  rintro e w1 ⟨rfl, hB1⟩
  have hl1 := (hl.below hBa).below hB1
  have hW1 : Below w.heap.size w w1 := hBa.trans (hB1.mono hBa.size)
  have hR1 : w1.heap[w.heap.size + 1]? = some (.cells #[.int .u32 0, .int .u32 0] 32) := (hB1.block _ (by omega)).trans hRa
  have hs1 : w.heap.size + 2 ≤ w1.heap.size := by have := hB1.size; omega
  clear hBa hRa hsa hB1 hl
  obtain ⟨c1, c2⟩ := hl1.2 m (by omega)
  have hg1 := hl1.1
  clear hl'
  gi_wp2_with fail
  refine ⟨trivial, ?_⟩
  gi_at_call 48
  refine (callsIn_wide.2 (value_cn _ _ _)).mono ?_
  rintro e w2 ⟨rfl, hB2⟩
  clear c1 c2
  have bA := Boxed.below (Boxed.new w1 83 (.complex .f32 (cn a) (cn b))) hB2
  have hAl : Below w1.heap.size w1 (w1.alloc (.cells #[.complex .f32 (cn a) (cn b)] 83)) := (Below.refl _ _).alloc (Nat.le_refl _) _
  have hB2' : Below w1.heap.size w1 w2 := hAl.trans (hB2.mono (by simp))
  have hl2 := hl1.below hB2'
  have hW2 : Below w.heap.size w w2 := hW1.trans (hB2'.mono hW1.size)
  have hR2 : w2.heap[w.heap.size + 1]? = some (.cells #[.int .u32 0, .int .u32 0] 32) := (hB2'.block _ (by omega)).trans hR1
  have hs2 : w1.heap.size + 1 ≤ w2.heap.size := by have := hB2.size; simp at this; omega
  obtain ⟨bA', hbA'⟩ : ∃ x, w1.heap.size = x := ⟨_, rfl⟩
  rw [hbA'] at bA hs2 hs1 ⊢
  clear hl1 hW1 hR1 hg1 hAl hB2 hB2' hbA'
  have hB0 : Below w2.heap.size w2 ((w2.alloc (.cells #[.complex .f32 (cn (zs m).1) (cn (zs m).2)] 83)).alloc (.cells #[.slice (some ⟨g, 0, none⟩) m cap] 24)) := ((Below.refl _ w2).alloc (Nat.le_refl _) _).alloc (by simp) _
  have bS := (Boxed.new w2 83 (.complex .f32 (cn (zs m).1) (cn (zs m).2))).alloc (.cells #[.slice (some ⟨g, 0, none⟩) m cap] 24)
  have bL := Boxed.new (w2.alloc (.cells #[.complex .f32 (cn (zs m).1) (cn (zs m).2)] 83)) 24 (.slice (some ⟨g, 0, none⟩) m cap)
  rw [World.size_alloc] at bL
  have hsz : ((w2.alloc (.cells #[.complex .f32 (cn (zs m).1) (cn (zs m).2)] 83)).alloc (.cells #[.slice (some ⟨g, 0, none⟩) m cap] 24)).heap.size = w2.heap.size + 2 := by simp
  gi_wp2_with fail
  refine ⟨trivial, ?_⟩
  gi_at_call 61
  refine (callsIn_wide.2 (backward_any _ _ ⟨_, _, _, rfl⟩)).mono ?_
  rintro e w3 ⟨rfl, rfl⟩
  obtain ⟨W0, hW0⟩ : ∃ W0, (w2.alloc (.cells #[.complex .f32 (cn (zs m).1) (cn (zs m).2)] 83)).alloc (.cells #[.slice (some ⟨g, 0, none⟩) m cap] 24) = W0 := ⟨_, rfl⟩
  rw [hW0] at hB0 bS bL hsz ⊢
  clear hW0
  gi_wp2_with fail
  have hl0 := hl2.below hB0
  refine wpIn_rangeFunc_ownH hro (by omega) (gf := 79) (lb := #[.pointer (some ⟨w2.heap.size + 1, 0, none⟩)]) rfl trivial (enters_of Try.func79 (by kernel_rfl) rfl)
    (back_stops Fence.wide 4 trivial hro (by omega) (w2.heap.size + 1) W0.heap.size w2.heap.size g m cap zs (fun j => ⟨j, zs j⟩) (fun e : EltW => #[.int .i64 e.j, numV e.p.1 e.p.2]) (fun j => rfl) (by omega) ⟨hl0.1, by have := hl2.1; omega⟩ ⟨by omega, by omega⟩ W0 (Nat.le_refl _) bL.cell (fun j hj => hl0.2 j (by omega)))
    BB.trans (bb_put (Nat.le_refl _)) (Below.refl _ _) (fun _ => rfl)
    (fun pre W => (∃ s : Nat × Nat, Boxed W w2.heap.size 83 (.complex .f32 s.1 s.2) ∧ WV s (foldW z (cnp (zs m)) pre)) ∧ BB W0.heap.size w2.heap.size W0 W)
    (fun _ _ _ => False)
    (OwnFrom.and (Own.from (fun s X Y row hs hg hr => by obtain ⟨p, hp, hv⟩ := hs; exact ⟨p, boxed_own _ 83 (fun (_ : Unit) => Value.complex .f32 p.1 p.2) () X Y row hp hg hr, hv⟩) _) (ownFrom_bb (Nat.le_refl _) (Nat.le_refl _)))
    (fun _ _ _ _ _ hs _ _ => hs)
    ⟨⟨(cn (zs m).1, cn (zs m).2), bS, wv_cnp (zs m)⟩, BB.refl _ _ _⟩
    (fun x a' W => ∃ Bx, W0.heap.size ≤ Bx ∧ W.heap[Bx]? = some (.cells #[.int .u32 x.p.1, .int .u32 x.p.2] 32 (0, 0)) ∧ a' = { tmps := #[.slice (some ⟨g, 0, none⟩) (m + 1) cap, numV a b, undef, .pointer (some ⟨w.heap.size, 0, none⟩), .pointer (some ⟨w.heap.size + 1, 0, none⟩), .int .i64 m, .pointer (some ⟨bA', 0, none⟩), .pointer (some ⟨w2.heap.size, 0, none⟩), undef, .pointer (some ⟨Bx, 0, none⟩), .slice (some ⟨g, 0, none⟩) (m + 1) cap, .int .i64 ((m : Int) + 1), .bool false, undef, .slice (some ⟨g, 0, none⟩) (m + 1) cap, .int .i64 ((m : Int) + 1), .int .i64 m, .agg #[.int .u32 a, .int .u32 b], .complex .f32 (cn a) (cn b), .slice (some ⟨g, 0, none⟩) (m + 1) cap, .int .i64 m, .pointer (some ⟨g, m * 2, none⟩), .agg #[.int .u32 (zs m).1, .int .u32 (zs m).2], .complex .f32 (cn (zs m).1) (cn (zs m).2), .slice (some ⟨g, 0, none⟩) (m + 1) cap, .int .i64 m, .slice (some ⟨g, 0, none⟩) m cap, .func (.func 79) #[] #[.pointer (some ⟨w2.heap.size + 1, 0, none⟩)], .int .i64 x.j, numV x.p.1 x.p.2, undef, undef, undef, undef, undef, undef, undef, undef], defers := [] })
    (fun x a' _ X Y row hs hg hr => by
      obtain ⟨Bx, h1, h2, h3⟩ := hs
      refine ⟨Bx, h1, (hg.block Bx (Array.getElem?_eq_some_iff.1 h2).1 (fun e' => ?_)).trans h2, h3⟩
      obtain ⟨-, o, ho, hc⟩ := hr Bx e'.symm
      rw [h2] at ho
      cases ho
      cases hc)
    ?assign ?body ?done ?stop
  case assign =>
    rintro l pre x W K hI hK
    gi_wp2
    exact hK _ _ ((KeepsOthers.alloc _ _).from _) ((BB.refl _ _ W).grown (World.grownBy_alloc W _ none) hI.2.size (fun k e => by cases e))
      ⟨by obtain ⟨s, h1, h2⟩ := hI.1; exact ⟨s, h1.alloc _, h2⟩, hI.2.grown (World.grownBy_alloc W _ none) hI.2.size (fun k e => by cases e)⟩ ⟨W.heap.size, hI.2.size, World.alloc_heap_new W _, rfl⟩
  case body =>
    rintro l pre x a' W hl ⟨r, hr⟩ ⟨⟨s, bS1, hs⟩, hBB⟩ ⟨Bx, hBx, bX, rfl⟩ hlt
    have cS := bS1.cell
    have fS := bS1.frozen
    have lS := bS1.lt
    have hAS : bA' ≠ w2.heap.size := by omega
    have cA : W.cell? ⟨bA', 0, none⟩ = some (.complex .f32 (cn a) (cn b)) := (hBB.cell (p := ⟨bA', 0, none⟩) (by simp; omega) hAS).trans ((hB0.cell (p := ⟨bA', 0, none⟩) (by simp; omega)).trans bA.cell)
    have lA : bA' < W.heap.size := by have := hBB.size; omega
    have lX : Bx < W.heap.size := (Array.getElem?_eq_some_iff.1 bX).1
    have cX0 : W.cell? ⟨Bx, 0, none⟩ = some (.int .u32 x.p.1) := by rw [(cell_cells bX).1]; rfl
    have cX1 : W.cell? ⟨Bx, 1, none⟩ = some (.int .u32 x.p.2) := by rw [(cell_cells bX).1]; rfl
    have HK := Lib.hid (And.intro hs (And.intro hBB bS1))
    have hH : Hd W bA' w2.heap.size Bx (cn a) (cn b) s.1 s.2 x.p.1 x.p.2 W.drew := Hd.drew ⟨Below.refl _ _, ⟨lA, lS, lX⟩, cA, cS, fS, cX0, cX1⟩
    clear hBB bS1 bX hl2 hl0
    gi_wp2_with fail
    have hmx : Try.prog.follows .mixedOrders = true := by kernel_rfl
    gi_region_with_o (first
      | (refine ⟨trivial, ?_⟩; gi_at_call 48; refine (CallsIn.inRound l (callsIn_wide.2 (value_cn _ _ _))).mono ?_; rintro e w' ⟨rfl, hB'⟩; have hH' := Hd.keep hB' (by assumption); obtain ⟨-, -, h1, h2, h3, h4, h5⟩ := id hH')
      | (refine ⟨trivial, ?_⟩; gi_at_call 49; refine (CallsIn.inRound l (callsIn_wide.2 (product_W hz hs _))).mono ?_; rintro e w' ⟨q, rfl, hq, hB'⟩; have hH' := Hd.keep hB' (by assumption); obtain ⟨-, -, h1, h2, h3, h4, h5⟩ := id hH'))
    all_goals gi_wp2
    all_goals
      obtain ⟨-, hBB, bS1⟩ := HK.out
      obtain ⟨k1, k2, k3, k4⟩ := round_endW (.complex .f32 _ _) hBB bS1 (below_drewN hH'.1 _)
      exact ⟨k1, k2, ⟨(_, _), k3, by rw [foldW_snoc]; exact (wv_cnp x.p).wadd hq _ _⟩, k4⟩
  case done =>
    rintro D ys W hD rfl ⟨⟨s, bS1, hs⟩, hBB⟩ hK
    rw [foldW_hor z zs m m (Nat.le_refl _), Nat.sub_self] at hs
    have cS := bS1.cell
    have hR0 : W0.heap[w.heap.size + 1]? = some (.cells #[.int .u32 0, .int .u32 0] 32) := (hB0.block _ (by omega)).trans hR2
    have hRW : W.heap[w.heap.size + 1]? = some (.cells #[.int .u32 0, .int .u32 0] 32) := (hBB.block _ (by omega) (by omega)).trans hR0
    have hBW : Below w.heap.size w W := (hW2.trans (hB0.mono hW2.size)).trans (hBB.below (by omega) (by omega))
    have HK := Lib.hid (And.intro hK (And.intro hRW hBW))
    clear hK hRW hBW hBB bS1 hR0 hR2
    gi_wp2_with fail
    refine ⟨trivial, ?_⟩
    gi_at_call 47
    refine (callsIn_wide.2 (number_cn _ _ _)).mono ?_
    rintro e w5 ⟨rfl, hB5⟩
    obtain ⟨t, ht⟩ : ∃ t : Nat × Nat, (cn s.1, cn s.2) = t := ⟨_, rfl⟩
    have ht1 : cn s.1 = t.1 := by rw [← ht]
    have ht2 : cn s.2 = t.2 := by rw [← ht]
    have hs' : horW (fun j => cnp (zs j)) z m 0 = t := by rw [← ht]; exact (hs.to).symm
    rw [ht1, ht2]
    obtain ⟨hK, hRW, hBW⟩ := HK.out
    have hR5 : w5.heap[w.heap.size + 1]? = some (.cells #[.int .u32 0, .int .u32 0] 32) := (hB5.block _ (Array.getElem?_eq_some_iff.1 hRW).1).trans hRW
    have hK5 : w5.heap[D]? = some (.deferred (some [])) := (hB5.block _ (Array.getElem?_eq_some_iff.1 hK).1).trans hK
    have hB5' : Below w.heap.size w w5 := hBW.trans (hB5.mono hBW.size)
    have q0 : w5.cell? ⟨w.heap.size + 1, 0, none⟩ = some (.int .u32 0) := by rw [(cell_cells hR5).1]; rfl
    have q1 : w5.cell? ⟨w.heap.size + 1, 1, none⟩ = some (.int .u32 0) := by rw [(cell_cells hR5).1]; rfl
    have f0 : w5.frozen? ⟨w.heap.size + 1, 0, none⟩ = false := (cell_cells (j := 0) hR5).2
    have f1 : w5.frozen? ⟨w.heap.size + 1, 1, none⟩ = false := (cell_cells (j := 1) hR5).2
    have HL := Lib.hid (And.intro hK5 (And.intro hR5 hB5'))
    clear hK5 hR5 hB5' hRW hBW hK hB5
    gi_wp2
    obtain ⟨hK5, hR5, hB5'⟩ := HL.out
    have hDr : D ≠ w.heap.size + 1 := by omega
    have hKf : ((w5.setCell ⟨w.heap.size + 1, 0, none⟩ (.int .u32 t.1)).setCell ⟨w.heap.size + 1, 1, none⟩ (.int .u32 t.2)).heap[D]? = some (.deferred (some [])) :=
      (Below.heap_setCell _ _ _ D hDr).trans ((Below.heap_setCell _ _ _ D hDr).trans hK5)
    refine ⟨by simp, .inl ⟨_, _, rfl, run_takeDeferred hKf, ?_⟩⟩
    have z0 : (((w5.setCell ⟨w.heap.size + 1, 0, none⟩ (.int .u32 t.1)).setCell ⟨w.heap.size + 1, 1, none⟩ (.int .u32 t.2)).putObj D (.deferred none)).cell? ⟨w.heap.size + 1, 0, none⟩ = some (.int .u32 t.1) := by
      rw [cell_put (by omega), World.cell?_setCell_other _ _ _ _ (by intro e; injection e with _ e; cases e)]
      exact World.cell?_setCell_same' _ _ _ (by rw [q0]; rfl)
    have z1 : (((w5.setCell ⟨w.heap.size + 1, 0, none⟩ (.int .u32 t.1)).setCell ⟨w.heap.size + 1, 1, none⟩ (.int .u32 t.2)).putObj D (.deferred none)).cell? ⟨w.heap.size + 1, 1, none⟩ = some (.int .u32 t.2) := by
      rw [cell_put (by omega)]
      obtain ⟨v', hv'⟩ := cell?_setCell_some (p := ⟨w.heap.size + 1, 0, none⟩) (x := .int .u32 t.1) q1
      exact World.cell?_setCell_same _ _ _ hv'
    have hfin := ((hB5'.setCell (p := ⟨w.heap.size + 1, 0, none⟩) (by simp) (.int .u32 t.1)).setCell (p := ⟨w.heap.size + 1, 1, none⟩) (by simp) (.int .u32 t.2)).grown (grownBy_putObj' _ D (.deferred none)) (by have := hB5'.size; simp; omega) (fun k e => by cases e; omega)
    exact ⟨numV t.1 t.2, by simp [results, Try.results28, go_sem, z0, z1], by rw [Nat.add_sub_cancel, hs'], hfin⟩
  case stop =>
    rintro D c pre W _ _ h _
    exact h.elim
end Go.Proofs.Ytmhfdjognikilaa
