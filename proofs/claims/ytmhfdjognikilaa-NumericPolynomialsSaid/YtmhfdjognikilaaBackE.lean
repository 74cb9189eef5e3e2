/- Layer 16 (numeric), transforms: Twiddles of one, two or four points; the law's own lists and how they are compared. -/
import Derived.Test.YtmhfdjognikilaaBackD
namespace Go.Proofs.Ytmhfdjognikilaa
open Go.RowKit Go.Shelf

theorem turn_1 (w : World) : Is 80 #[.int .i64 1] w (.tuple #[.float .f64 4607182418800017408, .float .f64 0]) := by
  go_enter Try.func80, Try.ntmps80
  go_wp2
  go_ret2
  exact ⟨rfl, rfl⟩
theorem cj_1 (w : World) : Is 51 #[.complex .f32 1065353216 0] w (.complex .f32 1065353216 2147483648) := conjugate_any _ _ _ w (by kernel_rfl)
set_option maxRecDepth 100000 in
theorem twiddles_1 (w : World) : Calls Try.prog 65 #[.int .i64 1] w fun e W' => ∃ v, e = .returned v ∧ Row W' v 1 (fun _ => (1065353216, 0)) ∧ Below w.heap.size w W' := by
  go_enter Try.func65, Try.ntmps65
  go_wp2_with (first
    | (go_at_call 80; refine (turn_1 _).mono ?_; rintro e w' ⟨rfl, rfl⟩)
    | (go_at_call 51; refine (cj_1 _).mono ?_; rintro e w' ⟨rfl, rfl⟩))
  go_loop [6] (fun s => s = .slice (some ⟨w.heap.size, 0, none⟩) 2 2) (fun _ => 0)
  case atStart => rfl
  case round =>
    obtain rfl := hrel
    go_wp2
    go_ret
    refine ⟨_, rfl, ⟨w.heap.size, 2, rfl, by simp, by omega, ?_⟩, (Below.refl _ _).alloc (Nat.le_refl _) _⟩
    intro j hj
    obtain ⟨c0, c1⟩ := cells_2 w (.complex .f32 1065353216 0) (.complex .f32 1065353216 2147483648) 83
    obtain rfl : j = 0 := by omega
    exact c0

theorem val_of (b : Nat) (n : Int) (neg : Bool) (h : n.natAbs < 2 ^ 24) (hs : n ≠ 0 → neg = decide (n < 0)) (hb : b = wordOf neg n.natAbs) : Val b n := ⟨h, neg, hs, hb⟩
theorem v_one : Val 1065353216 1 := val_of _ _ false (by decide) (fun _ => by decide) (by decide)
theorem v_m : Val 3212836864 (-1) := val_of _ _ true (by decide) (fun _ => by decide) (by decide)
theorem v_nz : Val 2147483648 0 := val_of _ _ true (by decide) (fun h => absurd rfl h) (by decide)

/-- The factors as the package has them. -/
theorem twiddles_n (n : Nat) (hn : n = 1 ∨ n = 2 ∨ n = 4) (w : World) : Calls Try.prog 65 #[.int .i64 n] w fun e W' => ∃ v zs, e = .returned v ∧ Row W' v n zs ∧ (∀ k, k < n → CV (zs k) (tw n k)) ∧ Below w.heap.size w W' := by
  rcases hn with rfl | rfl | rfl
  · refine (twiddles_1 w).mono ?_
    rintro e W' ⟨v, rfl, hr, hB⟩
    refine ⟨v, _, rfl, hr, fun k hk => ?_, hB⟩
    obtain rfl : k = 0 := by omega
    exact ⟨v_one, val_zero⟩
  · refine (twiddles_2 w).mono ?_
    rintro e W' ⟨v, rfl, hr, hB⟩
    refine ⟨v, _, rfl, hr, fun k hk => ?_, hB⟩
    have : k = 0 ∨ k = 1 := by omega
    rcases this with rfl | rfl
    · exact ⟨v_one, val_zero⟩
    · exact ⟨v_m, v_nz⟩
  · refine (twiddles_4 w).mono ?_
    rintro e W' ⟨v, rfl, hr, hB⟩
    refine ⟨v, _, rfl, hr, fun k hk => ?_, hB⟩
    have : k = 0 ∨ k = 1 ∨ k = 2 ∨ k = 3 := by omega
    rcases this with rfl | rfl | rfl | rfl
    · exact ⟨v_one, val_zero⟩
    · exact ⟨val_zero, v_m⟩
    · exact ⟨v_m, v_nz⟩
    · exact ⟨v_nz, v_one⟩

set_option maxRecDepth 100000 in
theorem twiddlesC (w : World) (n : Nat) (hn : n = 1 ∨ n = 2 ∨ n = 4) : Calls Try.prog 32 #[.int .i64 n] w fun e W' => ∃ v, e = .returned (.tuple #[v, .int .i64 0]) ∧ LN W' v n (tw n) ∧ Below w.heap.size w W' := by
  have hnn : 1 ≤ n ∧ n ≤ 5 := by omega
  go_enter Try.func32, Try.ntmps32
  go_wp2_with fail
  refine (length_n _ hn _).mono ?_
  rintro e w' ⟨rfl, rfl⟩
  go_wp2_with fail
  refine (twiddles_n n hn _).mono ?_
  rintro e w1 ⟨v, zs, rfl, hr, hv, hB1⟩
  obtain ⟨g, c, rfl, hg, -, hc⟩ := hr
  go_wp2_with fail
  refine (numbersP _ g n c zs hnn hg hc (fun j hj => (hv j hj).num)).mono ?_
  rintro e w2 ⟨g2, rfl, hN, hB2⟩
  go_wp2
  go_ret2
  exact ⟨_, rfl, ⟨zs, .inr ⟨hnn.1, g2, n, rfl, Nat.le_refl _, hN⟩, hv⟩, hB1.trans (hB2.mono hB1.size)⟩

set_option maxRecDepth 100000 in
set_option maxHeartbeats 2000000 in
/-- Two lists of the same numbers are the same. -/
theorem equalFunc_any (w : World) (g h n cg ch : Nat) (ys zs : Nat → Nat × Nat) (c : Nat → Cx) (hn : 1 ≤ n ∧ n ≤ 5) (hy : Nums w g n ys) (hz : Nums w h n zs) (vy : ∀ j, j < n → CV (ys j) (c j)) (vz : ∀ j, j < n → CV (zs j) (c j)) :
    Gives 76 #[.slice (some ⟨g, 0, none⟩) n cg, .slice (some ⟨h, 0, none⟩) n ch, .func (.func 41) #[] #[]] w (.bool true) := by
  obtain ⟨hn1, hn2⟩ := hn
  go_enter Try.func76, Try.ntmps76
  go_wp2
  go_loopw [17] (fun i W => ∃ k : Nat, i = .int .i64 k ∧ k ≤ n ∧ Below w.heap.size w W) (fun i _ => n - (intOf i).toNat)
  case atStart => exact ⟨0, rfl, Nat.zero_le _, Below.refl _ _⟩
  case round =>
    obtain ⟨k, rfl, hk, hB⟩ := hrel
    by_cases hlt : k < n
    · obtain ⟨c1, c2⟩ := hy.2 k hlt
      obtain ⟨d1, d2⟩ := hz.2 k hlt
      have e1 := (hB.cell (p := ⟨g, k * 2, none⟩) hy.1).trans c1
      have e2 := (hB.cell (p := ⟨g, k * 2 + 1, none⟩) hy.1).trans c2
      have f1 := (hB.cell (p := ⟨h, k * 2, none⟩) hz.1).trans d1
      have f2 := (hB.cell (p := ⟨h, k * 2 + 1, none⟩) hz.1).trans d2
      have lg : g < wr.heap.size := Nat.lt_of_lt_of_le hy.1 hB.size
      have lh : h < wr.heap.size := Nat.lt_of_lt_of_le hz.1 hB.size
      have heq : ∀ w, Gives 41 #[numV (ys k).1 (ys k).2, numV (zs k).1 (zs k).2] w (.bool true) := fun w => equalV (vy k hlt).1 (vy k hlt).2 (vz k hlt).1 (vz k hlt).2 w
      clear c1 c2 d1 d2 hy hz vy vz
      generalize (ys k).1 = y1 at *
      generalize (ys k).2 = y2 at *
      generalize (zs k).1 = z1 at *
      generalize (zs k).2 = z2 at *
      have hA : Below wr.heap.size wr ((wr.alloc (.cells #[.int .u32 y1, .int .u32 y2] 32)).alloc (.cells #[.int .u32 z1, .int .u32 z2] 32)) := ((Below.refl _ _).alloc (Nat.le_refl _) _).alloc (by simp) _
      go_wp2_with (go_at_call 41; refine (heq _).mono ?_; rintro e w' ⟨rfl, hBe⟩)
      all_goals
        go_roundw
        case rel => exact ⟨k + 1, by simp, by omega, (hB.trans (hA.mono hB.size)).trans (hBe.mono (Nat.le_trans hB.size hA.size))⟩
        case measure => simp [intOf]; omega
    · obtain rfl : k = n := by omega
      clear hy hz vy vz
      go_wp2
      go_ret
      exact ⟨rfl, hB⟩

theorem sameC (w : World) (u v : Value) (n : Nat) (c : Nat → Cx) (hn : n = 1 ∨ n = 2 ∨ n = 4) (hu : LN w u n c) (hv : LN w v n c) : Gives 43 #[u, v] w (.bool true) := by
  obtain ⟨ys, hu, vy⟩ := hu
  obtain ⟨zs, hv, vz⟩ := hv
  rcases hu with ⟨h0, -⟩ | ⟨hn1, g, cg, rfl, -, hy⟩
  · omega
  rcases hv with ⟨h0, -⟩ | ⟨-, h, ch, rfl, -, hz⟩
  · omega
  go_enter Try.func43, Try.ntmps43
  go_wp2_with fail
  refine (equalFunc_any w g h n cg ch ys zs c (by omega) hy hz vy vz).mono ?_
  rintro e w1 ⟨rfl, hB⟩
  go_wp2
  go_ret
  exact ⟨rfl, hB⟩
end Go.Proofs.Ytmhfdjognikilaa
