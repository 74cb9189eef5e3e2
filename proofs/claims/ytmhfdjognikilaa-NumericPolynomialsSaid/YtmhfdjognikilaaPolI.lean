/- Layer 16 (numeric), any words of F32: the reference's Product. -/
import Derived.Test.YtmhfdjognikilaaPolG
import Derived.Test.YtmhfdjognikilaaPolH
namespace Go.Proofs.Ytmhfdjognikilaa
open Go.RowKit Go.Shelf

theorem wv_stW (x y : Nat → Wx) (m k : Nat) : ∀ i, WV (stW x y m i k) (stW x y m i k)
  | 0 => ⟨cn_num val_zero.num, cn_num val_zero.num⟩
  | i + 1 => by
    unfold stW
    split
    · exact wv_wadd _ _
    · exact wv_stW x y m k i
/-- The sum, in a block of its own. -/
def Sc (wo : World) (o : Wx) (W : World) : Prop := Below wo.heap.size wo W ∧ wo.heap.size < W.heap.size ∧ (W.cell? ⟨wo.heap.size, 0, none⟩ = some (.int .u32 o.1) ∧ W.cell? ⟨wo.heap.size, 1, none⟩ = some (.int .u32 o.2)) ∧ W.frozen? ⟨wo.heap.size, 0, none⟩ = false ∧ W.frozen? ⟨wo.heap.size, 1, none⟩ = false
theorem Sc.keep {wo W W' : World} {o : Wx} (hB : Below W.heap.size W W') (h : Sc wo o W) : Sc wo o W' := by
  obtain ⟨h0, h1, ⟨h2, h3⟩, h4, h5⟩ := h
  exact ⟨h0.trans (hB.mono h0.size), Nat.lt_of_lt_of_le h1 hB.size, ⟨(hB.cell (p := ⟨wo.heap.size, 0, none⟩) h1).trans h2, (hB.cell (p := ⟨wo.heap.size, 1, none⟩) h1).trans h3⟩, (hB.frozen (p := ⟨wo.heap.size, 0, none⟩) h1).trans h4, (hB.frozen (p := ⟨wo.heap.size, 1, none⟩) h1).trans h5⟩
theorem Sc.start (wo : World) : Sc wo (0, 0) (wo.alloc (.cells #[.int .u32 0, .int .u32 0] 38)) := by
  refine ⟨(Below.refl _ _).alloc (Nat.le_refl _) _, by simp, ?_⟩
  simp [go_sem]
theorem Sc.set {wo W : World} {o : Wx} (x y : Nat) (h : Sc wo o W) : Sc wo (x, y) ((W.setCell ⟨wo.heap.size, 0, none⟩ (.int .u32 x)).setCell ⟨wo.heap.size, 1, none⟩ (.int .u32 y)) := by
  obtain ⟨h0, h1, ⟨h2, h3⟩, h4, h5⟩ := h
  have q5 : (W.cell? ⟨wo.heap.size, 0, none⟩).isSome = true := by rw [h2]; rfl
  have q6 : (W.cell? ⟨wo.heap.size, 1, none⟩).isSome = true := by rw [h3]; rfl
  refine ⟨(h0.setCell (by simp) _).setCell (by simp) _, by simpa using h1, ?_⟩
  clear h2 h3
  simp [go_sem, *]
/-- What a step of the sum holds. -/
def Hz (wo : World) (ga q gb c p1 p2 q1 q2 : Nat) (o : Wx) (W : World) : Prop :=
  Sc wo o W ∧ (ga < W.heap.size ∧ gb < W.heap.size) ∧ (W.cell? ⟨ga, q * 2, none⟩ = some (.int .u32 p1) ∧ W.cell? ⟨ga, q * 2 + 1, none⟩ = some (.int .u32 p2)) ∧ W.cell? ⟨gb, c * 2, none⟩ = some (.int .u32 q1) ∧ W.cell? ⟨gb, c * 2 + 1, none⟩ = some (.int .u32 q2)
theorem Hz.keep {wo W W' : World} {ga q gb c p1 p2 q1 q2 : Nat} {o : Wx} (hB : Below W.heap.size W W') (h : Hz wo ga q gb c p1 p2 q1 q2 o W) : Hz wo ga q gb c p1 p2 q1 q2 o W' := by
  obtain ⟨h0, ⟨h1, h2⟩, ⟨h3, h4⟩, h5, h6⟩ := h
  exact ⟨h0.keep hB, ⟨Nat.lt_of_lt_of_le h1 hB.size, Nat.lt_of_lt_of_le h2 hB.size⟩, ⟨(hB.cell (p := ⟨ga, q * 2, none⟩) h1).trans h3, (hB.cell (p := ⟨ga, q * 2 + 1, none⟩) h1).trans h4⟩, (hB.cell (p := ⟨gb, c * 2, none⟩) h2).trans h5, (hB.cell (p := ⟨gb, c * 2 + 1, none⟩) h2).trans h6⟩

set_option maxRecDepth 100000 in
set_option maxHeartbeats 4000000 in
theorem rproductW (w : World) (ga gb n m ca cb : Nat) (za zb : Nat → Nat × Nat) (hn : 1 ≤ n ∧ n ≤ 64) (hm : 1 ≤ m ∧ m ≤ 64) (ha : Nums w ga n za) (hb : Nums w gb m zb) (x y : Nat → Wx) (hx : ∀ j, cnp (za j) = x j) (hy : ∀ j, cnp (zb j) = y j) :
    Calls Try.prog 31 #[.slice (some ⟨ga, 0, none⟩) n ca, .slice (some ⟨gb, 0, none⟩) m cb] w fun e W' => ∃ v, e = .returned (.tuple #[v, .int .i64 0]) ∧ LW W' v (n + m - 1) (stW x y m n) ∧ Below w.heap.size w W' := by
  obtain ⟨hn1, hn2⟩ := hn
  obtain ⟨hm1, hm2⟩ := hm
  have HN : ((n : Int) + (m : Int) - 1) = ((n + m - 1 : Nat) : Int) := by omega
  go_enter Try.func31, Try.ntmps31
  have hO0 : (w.alloc (.cells #[] 38)).ownsRow w.heap.size 38 2 (.slice (some ⟨w.heap.size, 0, none⟩) 0 0) 0 (cellsN (stW x y m n) 0) :=
    ⟨rfl, .inr ⟨w.heap.size, 0, #[], rfl, Nat.le_refl _, World.alloc_heap_new w _, Nat.le_refl _, by unfold maxLen; omega, rfl, rfl⟩⟩
  have hB0 : Below w.heap.size w (w.alloc (.cells #[] 38)) := (Below.refl _ _).alloc (Nat.le_refl _) _
  obtain ⟨i0, hi, hz0, hz1, hz2⟩ := info_parts info38
  have u1 : (0 : Int) < (n : Int) := by omega
  have u2 : (0 : Int) < (m : Int) := by omega
  obtain ⟨N, hN⟩ : ∃ N, n + m - 1 = N := ⟨_, rfl⟩
  rw [hN] at HN
  go_wp2_with fail
  go_loopw [6, 7] (fun v i W => ∃ k : Nat, i = .int .i64 k ∧ k ≤ N ∧ W.ownsRow w.heap.size 38 2 v k (cellsN (stW x y m n) k) ∧ Below w.heap.size w W) (fun _ i _ => N - (intOf i).toNat)
  case atStart => exact ⟨0, rfl, by omega, hO0, hB0⟩
  case round =>
    obtain ⟨k, rfl, hk, hown, hB⟩ := hrel
    clear hO0 hB0
    by_cases hlt : k < N
    · have HW := Lib.hid (cellsN_succ (stW x y m n) k)
      have hS0 := Sc.start wr
      have ha1 := ha.below hB
      have hb1 := hb.below hB
      clear ha hb
      obtain ⟨wo, rfl⟩ : ∃ wo : World, wo = wr := ⟨_, rfl⟩
      go_wp2_with fail
      go_loopw [9] (fun i W => ∃ q : Nat, i = .int .i64 q ∧ q ≤ n ∧ Sc wo (stW x y m q k) W) (fun i _ => n - (intOf i).toNat)
      case atStart => exact ⟨0, rfl, by omega, hS0⟩
      case round =>
        obtain ⟨q, rfl, hq, hS⟩ := hrel
        clear hS0
        by_cases hqt : q < n
        · by_cases h1 : q ≤ k
          · obtain ⟨c, hkc⟩ : ∃ c, k = q + c := ⟨k - q, by omega⟩
            have d1 : (k : Int) - (q : Int) = (c : Int) := by omega
            have d2 : IntKind.i64.wrap (c : Int) = (c : Int) := IntWalk.i64_in _ (by omega)
            have d3 : (0 : Int) ≤ (c : Int) := by omega
            have hkm : q ≤ k ∧ k - q = c := by omega
            clear hkc
            by_cases h2 : c < m
            · have d4 : (c : Int) < (m : Int) := by omega
              have hst : stW x y m (q + 1) k = wadd (stW x y m q k) (wmul (x q) (y c)) := by
                rw [stW, if_pos (by omega), hkm.2]
              clear hkm
              have hv := wv_stW x y m k q
              have hsz := hS.1.size
              have c1 := (hS.1.cell (p := ⟨ga, q * 2, none⟩) ha1.1).trans (ha1.2 q hqt).1
              have c2 := (hS.1.cell (p := ⟨ga, q * 2 + 1, none⟩) ha1.1).trans (ha1.2 q hqt).2
              have c3 := (hS.1.cell (p := ⟨gb, c * 2, none⟩) hb1.1).trans (hb1.2 c h2).1
              have c4 := (hS.1.cell (p := ⟨gb, c * 2 + 1, none⟩) hb1.1).trans (hb1.2 c h2).2
              have l1 : ga < wr.heap.size := by have := ha1.1; omega
              have l2 : gb < wr.heap.size := by have := hb1.1; omega
              have hP : WV (za q) (x q) := by rw [← hx]; exact cnp_wv _
              have hQ : WV (zb c) (y c) := by rw [← hy]; exact cnp_wv _
              generalize stW x y m q k = O at hS hst hv
              generalize za q = P at c1 c2 hP
              generalize zb c = Q at c3 c4 hQ
              have hZ : Hz wo ga q gb c P.1 P.2 Q.1 Q.2 O wr.drew := (show Hz wo ga q gb c P.1 P.2 Q.1 Q.2 O wr from ⟨hS, ⟨l1, l2⟩, ⟨c1, c2⟩, c3, c4⟩).keep (Below.refl _ _).drew
              have HS := Lib.hid hst
              obtain ⟨-, k0, ⟨k1, k2⟩, k3, k4⟩ := hS
              clear hst hown ha1 hb1 hx hy hsz
              go_wp2_with fail
              go_region_with (first
                | (go_at_call 21; refine (rmulW hP hQ _).mono ?_; rintro e w' ⟨rfl, hB'⟩; have hZ' := Hz.keep hB' (by assumption); obtain ⟨⟨-, k0, ⟨k1, k2⟩, k3, k4⟩, -, ⟨e1, e2⟩, e3, e4⟩ := id hZ')
                | (go_at_call 19; refine (raddW hv (wv_wmul _ _) _).mono ?_; rintro e w' ⟨rfl, hB'⟩; have hZ' := Hz.keep hB' (by assumption); obtain ⟨⟨-, k0, ⟨k1, k2⟩, k3, k4⟩, -, ⟨e1, e2⟩, e3, e4⟩ := id hZ'))
              all_goals go_wp2
              all_goals
                go_roundw
                case rel => exact ⟨q + 1, by simp, by omega, by rw [HS.out]; exact hZ'.1.set _ _⟩
                case measure => simp [intOf]; omega
            · have d4 : ¬ (c : Int) < (m : Int) := by omega
              have hst : stW x y m (q + 1) k = stW x y m q k := by
                rw [stW, if_neg (by omega)]
              have HS := Lib.hid (And.intro hS hst)
              clear hkm
              clear hS hst hown ha1 hb1
              go_wp2_with fail
              go_roundw
              case rel => exact ⟨q + 1, by simp, by omega, by rw [HS.out.2]; exact HS.out.1⟩
              case measure => simp [intOf]; omega
          · have d1 : ¬ (0 : Int) ≤ (k : Int) - (q : Int) := by omega
            have d2 : IntKind.i64.wrap ((k : Int) - (q : Int)) = (k : Int) - (q : Int) := IntWalk.i64_in _ (by omega)
            have hst : stW x y m (q + 1) k = stW x y m q k := by
              rw [stW, if_neg (by omega)]
            have HS := Lib.hid (And.intro hS hst)
            clear hS hst hown ha1 hb1
            go_wp2_with fail
            go_roundw
            case rel => exact ⟨q + 1, by simp, by omega, by rw [HS.out.2]; exact HS.out.1⟩
            case measure => simp [intOf]; omega
        · obtain rfl : q = n := by omega
          have hown1 := own_below hown hS.1
          have hb2 : Below w.heap.size w wr := hB.trans (hS.1.mono hB.size)
          have hsz1 := hb2.size
          obtain ⟨-, l0, ⟨k1, k2⟩, -⟩ := hS
          generalize stW x y m q k = O at k1 k2 HW
          clear hown ha1 hb1 hx hy
          go_wp2_with (at_builtin; refine wpList_append_own _ rfl _ _ 27 rfl w.heap.size 38 i0 (.agg #[.int .u32 0, .int .u32 0]) 2 8 Try.underlying27 hi hz0 hz1 hz2 rfl (by decide) _ _ _ rfl (hown1.alloc _) ⟨wr.heap.size, 0, none⟩ 1 1 [.int .u32 O.1, .int .u32 O.2] rfl rfl (two_new _ _ _ _) (by simp [Value.oneCell']) (by unfold maxLen; omega) (by omega) (by simp; omega) ?_; intro v' w2 hown2 hgrow hnil2)
          have hb3 : Below w.heap.size w w2 := (hb2.alloc hsz1 _).grown hgrow (by simp; omega) (fun x hx => (hown1.lt x hx).1)
          go_roundw
          case rel => exact ⟨k + 1, by simp, by omega, by rw [HW.out]; exact hown2, hb3⟩
          case measure => simp [intOf]; omega
    · obtain rfl : k = N := by omega
      clear ha hb
      go_wp2
      go_ret2
      exact ⟨_, rfl, by rw [hN]; exact .of_own hown (fun h => by omega), hB⟩
end Go.Proofs.Ytmhfdjognikilaa
