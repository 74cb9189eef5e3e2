/- Layer 16, part L. -/
import Derived.Test.YtmhfdjognikilaaFloK
namespace Go.Proofs.Ytmhfdjognikilaa
open Go.RowKit Go.Shelf

theorem ex_num : (∀ j, j < 4 → Num (ex j).1 ∧ Num (ex j).2) ∧ ∀ j, j < 4 → Num (exOut j).1 ∧ Num (exOut j).2 := by
  constructor
  · intro j hj
    have : j = 0 ∨ j = 1 ∨ j = 2 ∨ j = 3 := by omega
    rcases this with rfl | rfl | rfl | rfl
    · exact ⟨num0, num0⟩
    · exact ⟨num1, num0⟩
    · exact ⟨num0, num0⟩
    · exact ⟨num0, num0⟩
  · intro j hj
    have : j = 0 ∨ j = 1 ∨ j = 2 ∨ j = 3 := by omega
    rcases this with rfl | rfl | rfl | rfl
    · exact ⟨num1, num0⟩
    · exact ⟨num0, numm⟩
    · exact ⟨numm, num0⟩
    · exact ⟨num0, num1⟩

theorem nums_ex (W : World) : Nums (W.alloc (.cells #[.int .u32 0, .int .u32 0, .int .u32 1065353216, .int .u32 0, .int .u32 0, .int .u32 0, .int .u32 0, .int .u32 0] 32)) W.heap.size 4 ex := by
  refine ⟨by simp, fun j hj => ?_⟩
  have h := World.alloc_heap_new W (.cells #[.int .u32 0, .int .u32 0, .int .u32 1065353216, .int .u32 0, .int .u32 0, .int .u32 0, .int .u32 0, .int .u32 0] 32)
  rw [(cell_cells h).1, (cell_cells h).1]
  have : j = 0 ∨ j = 1 ∨ j = 2 ∨ j = 3 := by omega
  rcases this with rfl | rfl | rfl | rfl <;> exact ⟨rfl, rfl⟩

theorem nums_want (W : World) : Nums (W.alloc (.cells #[.int .u32 1065353216, .int .u32 0, .int .u32 0, .int .u32 3212836864, .int .u32 3212836864, .int .u32 0, .int .u32 0, .int .u32 1065353216] 38)) W.heap.size 4 exOut := by
  refine ⟨by simp, fun j hj => ?_⟩
  have h := World.alloc_heap_new W (.cells #[.int .u32 1065353216, .int .u32 0, .int .u32 0, .int .u32 3212836864, .int .u32 3212836864, .int .u32 0, .int .u32 0, .int .u32 1065353216] 38)
  rw [(cell_cells h).1, (cell_cells h).1]
  have : j = 0 ∨ j = 1 ∨ j = 2 ∨ j = 3 := by omega
  rcases this with rfl | rfl | rfl | rfl <;> exact ⟨rfl, rfl⟩

set_option maxRecDepth 100000 in
set_option maxHeartbeats 2000000 in
theorem awake_any (w : World) : Calls Try.prog 27 #[] w fun e W' => e = .returned (.bool true) ∧ Below w.heap.size w W' := by
  have hg4 := given4
  have hw4 := want4
  go_enter Try.func27, Try.ntmps27
  go_wp2_with fail
  refine (mk00 _).mono ?_; rintro e w1 ⟨rfl, hB1⟩
  go_wp2_with fail
  refine (mk10 _).mono ?_; rintro e w2 ⟨rfl, hB2⟩
  go_wp2_with fail
  refine (mk00 _).mono ?_; rintro e w3 ⟨rfl, hB3⟩
  go_wp2_with fail
  refine (mk00 _).mono ?_; rintro e w4 ⟨rfl, hB4⟩
  go_wp2_with fail
  refine (transform_4 _ w4.heap.size 4 ex exOut (0, 0) (0, 0) (1065353216, 0) (1065353216, 0) (nums_ex _) ex_num.1 ex_num.2 four_ex).mono ?_; rintro e w5 ⟨g, rfl, hn5, hB5⟩
  have hW5 : Below w.heap.size w w5 := (((((hB1.trans (hB2.mono hB1.size)).trans (hB3.mono (Nat.le_trans hB1.size hB2.size))).trans (hB4.mono (by have := hB1.size; have := hB2.size; have := hB3.size; omega)))).alloc (by have := hB1.size; have := hB2.size; have := hB3.size; have := hB4.size; omega) _).trans (hB5.mono (by have := hB1.size; have := hB2.size; have := hB3.size; have := hB4.size; simp; omega))
  clear hB1 hB2 hB3 hB4 hB5 hg4
  go_wp2_with fail
  refine (refOf_any _ _ _ num1 num0).mono ?_; rintro e w6 ⟨rfl, hB6⟩
  go_wp2_with fail
  refine (refOf_any _ _ _ num0 numm).mono ?_; rintro e w7 ⟨rfl, hB7⟩
  go_wp2_with fail
  refine (refOf_any _ _ _ numm num0).mono ?_; rintro e w8 ⟨rfl, hB8⟩
  go_wp2_with fail
  refine (refOf_any _ _ _ num0 num1).mono ?_; rintro e w9 ⟨rfl, hB9⟩
  have hn9 := (((hn5.below hB6).below hB7).below hB8).below hB9
  have hW9 : Below w.heap.size w w9 := (((hW5.trans (hB6.mono hW5.size)).trans (hB7.mono (Nat.le_trans hW5.size hB6.size))).trans (hB8.mono (by have := hW5.size; have := hB6.size; have := hB7.size; omega))).trans (hB9.mono (by have := hW5.size; have := hB6.size; have := hB7.size; have := hB8.size; omega))
  clear hn5 hB6 hB7 hB8 hB9 hW5
  go_wp2_with fail
  have hA : Below w9.heap.size w9 (w9.alloc (.cells #[.int .u32 1065353216, .int .u32 0, .int .u32 0, .int .u32 3212836864, .int .u32 3212836864, .int .u32 0, .int .u32 0, .int .u32 1065353216] 38)) := (Below.refl _ _).alloc (Nat.le_refl _) _
  have hnA := hn9.below hA
  have hwA := nums_want w9
  have hWA := hW9.trans (hA.mono hW9.size)
  clear hA hn9 hW9 hw4
  obtain ⟨h, hh⟩ : ∃ h, w9.heap.size = h := ⟨_, rfl⟩
  rw [hh] at hwA ⊢
  clear hh
  go_loopw [32] (fun i W => ∃ k : Nat, i = .int .i64 k ∧ k ≤ 4 ∧ Below w.heap.size w W ∧ Nums W g 4 exOut ∧ Nums W h 4 exOut) (fun i _ => 4 - (intOf i).toNat)
  case atStart => exact ⟨0, rfl, by omega, hWA, hnA, hwA⟩
  case round =>
    obtain ⟨k, rfl, hk, hW, hn, hm⟩ := hrel
    by_cases hlt : k < 4
    · obtain ⟨c1, c2⟩ := hn.2 k hlt
      obtain ⟨n1, n2⟩ := ex_num.2 k hlt
      clear hWA hnA hwA
      go_wp2_with (go_at_call 11; refine (parts_any _ _ _ n1 n2).mono ?_; rintro e w' ⟨rfl, hB⟩)
      have hm' := hm.below hB
      have hn' := hn.below hB
      have hW' := hW.trans (hB.mono hW.size)
      obtain ⟨d1, d2⟩ := hm'.2 k hlt
      have e1 : (FloatKind.f32.format.order (exOut k).1 (exOut k).1 != some .eq) = false := by have : FloatKind.f32.format.order (exOut k).1 (exOut k).1 = some .eq := n1; simp [this]
      have e2 : (FloatKind.f32.format.order (exOut k).2 (exOut k).2 != some .eq) = false := by have : FloatKind.f32.format.order (exOut k).2 (exOut k).2 = some .eq := n2; simp [this]
      clear c1 c2 n1 n2 hm hn hW hB
      go_quiet (fail)
      go_wp2
      exact ⟨⟨k + 1, by simp, by omega, below_drewN hW' _, hn'.below (below_drewN (Below.refl _ _) _), hm'.below (below_drewN (Below.refl _ _) _)⟩, by simp [intOf]; omega⟩
    · obtain rfl : k = 4 := by omega
      go_wp2_with fail
      refine (mk12 _).mono ?_; rintro e v1 ⟨rfl, hB1⟩
      go_wp2_with fail
      refine (mk3m _).mono ?_; rintro e v2 ⟨rfl, hB2⟩
      go_wp2_with fail
      refine (mul55 _).mono ?_; rintro e v3 ⟨rfl, hB3⟩
      go_wp2_with fail
      refine (mk55 _).mono ?_; rintro e v4 ⟨rfl, hB4⟩
      have hV4 : Below w.heap.size w v4 := (((hW.trans (hB1.mono hW.size)).trans (hB2.mono (Nat.le_trans hW.size hB1.size))).trans (hB3.mono (by have := hW.size; have := hB1.size; have := hB2.size; omega))).trans (hB4.mono (by have := hW.size; have := hB1.size; have := hB2.size; have := hB3.size; omega))
      clear hB1 hB2 hB3 hB4 hW hn hm
      have hq := eq32 1084227584 1084227584 1084227584 1084227584
      go_wp2_with fail
      refine (mk34 _).mono ?_; rintro e v5 ⟨rfl, hB5⟩
      go_wp2_with fail
      refine (abs_34 _).mono ?_; rintro e v6 ⟨rfl, hB6⟩
      go_wp2_with fail
      trace_state
      go_ret
      exact ⟨rfl, (hV4.trans (hB5.mono hV4.size)).trans (hB6.mono (Nat.le_trans hV4.size hB5.size))⟩

end Go.Proofs.Ytmhfdjognikilaa
