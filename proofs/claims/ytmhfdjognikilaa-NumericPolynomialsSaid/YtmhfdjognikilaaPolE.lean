/- Layer 16 (numeric), any words of F32: the law's lists of numbers, of the program and of the reference. -/
import Derived.Test.YtmhfdjognikilaaPolC
import Derived.Test.YtmhfdjognikilaaProF
import Derived.Test.YtmhfdjognikilaaBackF
namespace Go.Proofs.Ytmhfdjognikilaa
open Go.RowKit Go.Shelf

/-- Pairs of words that came in. -/
def Inp (W : World) (ga : Option Addr) (n : Nat) (zs : Nat → Nat × Nat) : Prop :=
  n = 0 ∨ ∃ b o, ga = some ⟨b, o, none⟩ ∧ b < W.heap.size ∧ ∀ j, j < n → W.cell? ⟨b, o + j * 2, none⟩ = some (.int .u32 (zs j).1) ∧ W.cell? ⟨b, o + j * 2 + 1, none⟩ = some (.int .u32 (zs j).2)
theorem Inp.below {w w' : World} {ga : Option Addr} {n : Nat} {zs : Nat → Nat × Nat} (hB : Below w.heap.size w w') (h : Inp w ga n zs) : Inp w' ga n zs := by
  rcases h with h | ⟨b, o, h1, h2, h3⟩
  · exact .inl h
  · exact .inr ⟨b, o, h1, Nat.lt_of_lt_of_le h2 hB.size, fun j hj => ⟨(hB.cell (p := ⟨b, o + j * 2, none⟩) h2).trans (h3 j hj).1, (hB.cell (p := ⟨b, o + j * 2 + 1, none⟩) h2).trans (h3 j hj).2⟩⟩
/-- A list of numbers: their words. -/
def LW (W : World) (v : Value) (n : Nat) (zs : Nat → Nat × Nat) : Prop := n = 0 ∧ v = .slice none 0 0 ∨ 1 ≤ n ∧ ∃ g cap, v = .slice (some ⟨g, 0, none⟩) n cap ∧ n ≤ cap ∧ Nums W g n zs
theorem LW.below {w w' : World} {v : Value} {n : Nat} {zs : Nat → Nat × Nat} (hB : Below w.heap.size w w') (h : LW w v n zs) : LW w' v n zs := by
  rcases h with h | ⟨h1, g, cap, hv, hle, hn⟩
  · exact .inl h
  · exact .inr ⟨h1, g, cap, hv, hle, hn.below hB⟩
theorem LW.of_own {W : World} {base e n : Nat} {v : Value} {zs : Nat → Nat × Nat} (h : W.ownsRow base e 2 v n (cellsN zs n)) (h0 : n = 0 → v = .slice none 0 0) : LW W v n zs := by
  by_cases hn : n = 0
  · exact .inl ⟨hn, h0 hn⟩
  · rcases h.2 with ⟨-, h1⟩ | ⟨g, cap, cur, rfl, -, hg, hle, -⟩
    · exact absurd h1 hn
    · refine .inr ⟨by omega, g, cap, rfl, hle, (Array.getElem?_eq_some_iff.1 hg).1, fun j hj => ?_⟩
      have hk := h.cells (g := g) rfl
      obtain ⟨e1, e2⟩ := cellsN_get zs n j hj
      have k1 := hk _ _ e1
      have k2 := hk _ _ e2
      rw [add_zero] at k1 k2
      exact ⟨k1, k2⟩

set_option maxRecDepth 100000 in
set_option maxHeartbeats 4000000 in
theorem given_any (w : World) (ga : Option Addr) (n cap : Nat) (zs : Nat → Nat × Nat) (hn : n ≤ 100) (hx : Inp w ga n zs) :
    Calls Try.prog 9 #[.slice ga n cap] w fun e W' => ∃ v, e = .returned v ∧ LW W' v n zs ∧ Below w.heap.size w W' := by
  have hn0 := World.ownsRow_nil w w.heap.size 32 2
  obtain ⟨i0, hi, hz0, hz1, hz2⟩ := info_parts info32
  go_enter Try.func9, Try.ntmps9
  go_wp2_with fail
  go_loopw [3, 8] (fun v i W => ∃ j : Nat, i = .int .i64 j ∧ j ≤ n ∧ W.ownsRow w.heap.size 32 2 v j (cellsN zs j) ∧ (j = 0 → v = .slice none 0 0) ∧ Below w.heap.size w W) (fun _ i _ => n - (intOf i).toNat)
  case atStart => exact ⟨0, rfl, by omega, hn0, fun _ => rfl, Below.refl _ _⟩
  case round =>
    obtain ⟨j, rfl, hj, hown, hnil, hB⟩ := hrel
    clear hn0
    by_cases hlt : j < n
    · have hx' := hx.below hB
      obtain hx' | ⟨b, o, rfl, lb, hx'⟩ := hx'
      · omega
      obtain ⟨c0, c1⟩ := hx' j hlt
      have HW := Lib.hid (cellsN_succ zs j)
      clear hx hx'
      generalize (zs j).1 = x1 at *
      generalize (zs j).2 = x2 at *
      have hA : Below wr.heap.size wr (wr.alloc (.cells #[.int .u32 x1, .int .u32 x2] 23)) := (Below.refl _ _).alloc (Nat.le_refl _) _
      have hown1 := own_below hown hA
      have hb1 : Below w.heap.size w (wr.alloc (.cells #[.int .u32 x1, .int .u32 x2] 23)) := hB.trans (hA.mono hB.size)
      have hsz1 := hb1.size
      have hsz0 := hB.size
      go_wp2_with (at_builtin; refine wpList_append_own _ rfl _ _ 24 rfl w.heap.size 32 i0 (.agg #[.int .u32 0, .int .u32 0]) 2 8 Try.underlying24 hi hz0 hz1 hz2 rfl (by decide) _ _ _ rfl (hown1.alloc _) ⟨wr.heap.size + 1, 0, none⟩ 1 1 [.int .u32 x1, .int .u32 x2] rfl rfl (by have := two_new (wr.alloc (.cells #[.int .u32 x1, .int .u32 x2] 23)) (.int .u32 x1) (.int .u32 x2) 32; rwa [World.size_alloc] at this) (by simp [Value.oneCell']) (by unfold maxLen; omega) (by omega) (by simp; omega) ?_; intro v' w2 hown2 hgrow hnil2)
      have hb2 : Below w.heap.size w w2 := (hb1.alloc hsz1 _).grown hgrow (by simp at hsz1 ⊢; omega) (fun x hx => (hown1.lt x hx).1)
      go_roundw
      case rel => exact ⟨j + 1, by simp, by omega, by rw [HW.out]; exact hown2, fun h => by omega, hb2⟩
      case measure => simp [intOf]; omega
    · obtain rfl : j = n := by omega
      clear hx
      go_wp2
      go_ret
      exact ⟨_, rfl, .of_own hown hnil, hB⟩

set_option maxRecDepth 100000 in
set_option maxHeartbeats 4000000 in
theorem own_any (w : World) (ga : Option Addr) (n cap : Nat) (zs : Nat → Nat × Nat) (hn : n ≤ 100) (hx : Inp w ga n zs) :
    Calls Try.prog 10 #[.slice ga n cap] w fun e W' => ∃ v, e = .returned v ∧ LW W' v n zs ∧ Below w.heap.size w W' := by
  have hn0 := World.ownsRow_nil w w.heap.size 38 2
  obtain ⟨i0, hi, hz0, hz1, hz2⟩ := info_parts info38
  go_enter Try.func10, Try.ntmps10
  go_wp2_with fail
  go_loopw [3, 8] (fun v i W => ∃ j : Nat, i = .int .i64 j ∧ j ≤ n ∧ W.ownsRow w.heap.size 38 2 v j (cellsN zs j) ∧ (j = 0 → v = .slice none 0 0) ∧ Below w.heap.size w W) (fun _ i _ => n - (intOf i).toNat)
  case atStart => exact ⟨0, rfl, by omega, hn0, fun _ => rfl, Below.refl _ _⟩
  case round =>
    obtain ⟨j, rfl, hj, hown, hnil, hB⟩ := hrel
    clear hn0
    by_cases hlt : j < n
    · have hx' := hx.below hB
      obtain hx' | ⟨b, o, rfl, lb, hx'⟩ := hx'
      · omega
      obtain ⟨c0, c1⟩ := hx' j hlt
      have HW := Lib.hid (cellsN_succ zs j)
      clear hx hx'
      generalize (zs j).1 = x1 at *
      generalize (zs j).2 = x2 at *
      have hA : Below wr.heap.size wr (wr.alloc (.cells #[.int .u32 x1, .int .u32 x2] 23)) := (Below.refl _ _).alloc (Nat.le_refl _) _
      have hown1 := own_below hown hA
      have hb1 : Below w.heap.size w (wr.alloc (.cells #[.int .u32 x1, .int .u32 x2] 23)) := hB.trans (hA.mono hB.size)
      have hsz1 := hb1.size
      have hsz0 := hB.size
      go_wp2_with (at_builtin; refine wpList_append_own _ rfl _ _ 27 rfl w.heap.size 38 i0 (.agg #[.int .u32 0, .int .u32 0]) 2 8 Try.underlying27 hi hz0 hz1 hz2 rfl (by decide) _ _ _ rfl (hown1.alloc _) ⟨wr.heap.size + 1, 0, none⟩ 1 1 [.int .u32 x1, .int .u32 x2] rfl rfl (by have := two_new (wr.alloc (.cells #[.int .u32 x1, .int .u32 x2] 23)) (.int .u32 x1) (.int .u32 x2) 38; rwa [World.size_alloc] at this) (by simp [Value.oneCell']) (by unfold maxLen; omega) (by omega) (by simp; omega) ?_; intro v' w2 hown2 hgrow hnil2)
      have hb2 : Below w.heap.size w w2 := (hb1.alloc hsz1 _).grown hgrow (by simp at hsz1 ⊢; omega) (fun x hx => (hown1.lt x hx).1)
      go_roundw
      case rel => exact ⟨j + 1, by simp, by omega, by rw [HW.out]; exact hown2, fun h => by omega, hb2⟩
      case measure => simp [intOf]; omega
    · obtain rfl : j = n := by omega
      clear hx
      go_wp2
      go_ret
      exact ⟨_, rfl, .of_own hown hnil, hB⟩
end Go.Proofs.Ytmhfdjognikilaa
