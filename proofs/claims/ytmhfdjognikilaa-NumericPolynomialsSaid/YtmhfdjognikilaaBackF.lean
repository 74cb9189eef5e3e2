/- Layer 16 (numeric), transforms: the law's lists of small numbers. -/
import Derived.Test.YtmhfdjognikilaaBackE

import Derived.Deep.AppendLies
namespace Go.Proofs.Ytmhfdjognikilaa
open Go.RowKit Go.Shelf

/-- Pairs of sixteen bits lie in a block. -/
def Pairs (W : World) (b n : Nat) (x : Nat → Int × Int) : Prop := b < W.heap.size ∧ ∀ j, j < n → (W.cell? ⟨b, j * 2, none⟩ = some (.int .i16 (x j).1) ∧ W.cell? ⟨b, j * 2 + 1, none⟩ = some (.int .i16 (x j).2)) ∧ (-32768 ≤ (x j).1 ∧ (x j).1 ≤ 32767) ∧ (-32768 ≤ (x j).2 ∧ (x j).2 ≤ 32767)
theorem Pairs.below {w w' : World} {b n : Nat} {x : Nat → Int × Int} (hB : Below w.heap.size w w') (h : Pairs w b n x) : Pairs w' b n x :=
  ⟨Nat.lt_of_lt_of_le h.1 hB.size, fun j hj => ⟨⟨(hB.cell (p := ⟨b, j * 2, none⟩) h.1).trans (h.2 j hj).1.1, (hB.cell (p := ⟨b, j * 2 + 1, none⟩) h.1).trans (h.2 j hj).1.2⟩, (h.2 j hj).2⟩⟩
/-- The small numbers. -/
def sml (x : Nat → Int × Int) (j : Nat) : Cx := ((x j).1.tmod 1001, (x j).2.tmod 1001)
def swd (x : Nat → Int × Int) (j : Nat) : Nat × Nat := (floatOfInt .f32 ((x j).1.tmod 1001), floatOfInt .f32 ((x j).2.tmod 1001))
theorem sml_bd (x : Nat → Int × Int) (j : Nat) : Bd 1000 (sml x j) := ⟨tmod_le _ 1001 (by decide), tmod_le _ 1001 (by decide)⟩
theorem swd_cv (x : Nat → Int × Int) (j : Nat) : CV (swd x j) (sml x j) := by
  obtain ⟨h1, h2⟩ := (sml_bd x j).lt (by decide)
  exact ⟨val_int _ h1, val_int _ h2⟩

theorem own_below {w w' : World} {base e size n : Nat} {v : Value} {xs : List Value} (h : w.ownsRow base e size v n xs) (hB : Below w.heap.size w w') : w'.ownsRow base e size v n xs :=
  h.kept (row := none) ⟨hB.os, hB.tape, hB.output, hB.size, fun k hk _ => hB.block k hk⟩ (by
    cases ho : v.ownBlock with
    | none => exact .inl rfl
    | some x => exact .inr (by simp))

set_option maxRecDepth 100000 in
set_option maxHeartbeats 4000000 in
theorem numbers16 (w : World) (b n cap : Nat) (x : Nat → Int × Int) (hn : n ≤ 4) (hx : Pairs w b n x) :
    Calls Try.prog 42 #[.slice (some ⟨b, 0, none⟩) n cap] w fun e W' => ∃ v, e = .returned v ∧ LN W' v n (sml x) ∧ Below w.heap.size w W' := by
  have hn0 := World.ownsRow_nil w w.heap.size 32 2
  obtain ⟨i0, hi, hz0, hz1, hz2⟩ := info_parts info32
  go_enter Try.func42, Try.ntmps42
  go_wp2_with fail
  go_loopw [3, 8] (fun v i W => ∃ j : Nat, i = .int .i64 j ∧ j ≤ n ∧ W.ownsRow w.heap.size 32 2 v j (cellsN (swd x) j) ∧ (j = 0 → v = .slice none 0 0) ∧ Below w.heap.size w W) (fun _ i _ => n - (intOf i).toNat)
  case atStart => exact ⟨0, rfl, by omega, hn0, fun _ => rfl, Below.refl _ _⟩
  case round =>
    obtain ⟨j, rfl, hj, hown, hnil, hB⟩ := hrel
    clear hn0
    by_cases hlt : j < n
    · have hx' := hx.below (hB.mono (Nat.le_refl _))
      obtain ⟨⟨c0, c1⟩, hb1, hb2⟩ := hx'.2 j hlt
      have lb := hx'.1
      have m1 : Num (floatOfInt .f32 ((x j).1.tmod 1001)) := (swd_cv x j).num.1
      have m2 : Num (floatOfInt .f32 ((x j).2.tmod 1001)) := (swd_cv x j).num.2
      have HW := Lib.hid (show cellsN (swd x) (j + 1) = cellsN (swd x) j ++ [.int .u32 (floatOfInt .f32 ((x j).1.tmod 1001)), .int .u32 (floatOfInt .f32 ((x j).2.tmod 1001))] from cellsN_succ _ _)
      have s1 := fun w => small_any (x j).1 w hb1
      have s2 := fun w => small_any (x j).2 w hb2
      clear hx hx'
      generalize (x j).1 = x1 at *
      generalize (x j).2 = x2 at *
      go_wp2_with fail
      have hAl : Below wr.heap.size wr (wr.alloc (.cells #[.int .i16 x1, .int .i16 x2] 64)) := (Below.refl _ _).alloc (Nat.le_refl _) _
      have q0 : (wr.alloc (.cells #[.int .i16 x1, .int .i16 x2] 64)).cell? ⟨wr.heap.size, 0, none⟩ = some (.int .i16 x1) := by simp [go_sem]
      have q1 : (wr.alloc (.cells #[.int .i16 x1, .int .i16 x2] 64)).cell? ⟨wr.heap.size, 1, none⟩ = some (.int .i16 x2) := by simp [go_sem]
      obtain ⟨wx, hwx⟩ : ∃ wx, wr.alloc (.cells #[.int .i16 x1, .int .i16 x2] 64) = wx := ⟨_, rfl⟩
      rw [hwx] at hAl q0 q1 ⊢
      clear hwx
      have hown0 : wx.drew.ownsRow w.heap.size 32 2 u3 j (cellsN (swd x) j) := own_below hown hAl.drew
      have lown := hown.lt
      have hBx : Below w.heap.size w wx := hB.trans (hAl.mono hB.size)
      have hq : wx.drew.cell? ⟨wr.heap.size, 0, none⟩ = some (.int .i16 x1) ∧ wx.drew.cell? ⟨wr.heap.size, 1, none⟩ = some (.int .i16 x2) := ⟨q0, q1⟩
      have hsx : wr.heap.size < wx.heap.size := (World.block_lt_of_cell? wx ⟨wr.heap.size, 0, none⟩ q0)
      generalize hbx : wr.heap.size = bx at q0 q1 hq hsx lown ⊢
      clear q0 q1 hAl
      go_region_held3 (fun W => W.cell? ⟨bx, 0, none⟩ = some (.int .i16 x1) ∧ W.cell? ⟨bx, 1, none⟩ = some (.int .i16 x2))
        (first | assumption | go_keep)
        (first
          | (go_at_call 40; ((with_reducible refine (s1 _).mono ?_); rintro e w' ⟨rfl, rfl⟩))
          | (go_at_call 40; ((with_reducible refine (s2 _).mono ?_); rintro e w' ⟨rfl, rfl⟩))
          | (go_at_call 39; ((refine (mk_any _ _ _ m1 m2).mono ?_); rintro e w1 ⟨rfl, hB1⟩; have hown1 := own_below hown0 hB1; have hb1 : Below w.heap.size w w1 := hBx.drew.trans (hB1.mono hBx.size); have hq1 : w1.cell? ⟨bx, 0, none⟩ = some (.int .i16 x1) ∧ w1.cell? ⟨bx, 1, none⟩ = some (.int .i16 x2) := ⟨(hB1.cell (p := ⟨bx, 0, none⟩) hsx).trans hq.1, (hB1.cell (p := ⟨bx, 1, none⟩) hsx).trans hq.2⟩; have hs1 : bx < w1.heap.size := Nat.lt_of_lt_of_le hsx hB1.size))
          | (refine step_append_lies _ (by rfl) _ _ _ (by rfl) w.heap.size 32 i0 _ 2 8 Try.underlying24 hi hz0 hz1 hz2 rfl (by omega) u3 j _ (by rfl) (hown1.alloc _) ⟨w1.heap.size, 0, none⟩ 1 1 [.int .u32 (floatOfInt .f32 (x1.tmod 1001)), .int .u32 (floatOfInt .f32 (x2.tmod 1001))] (by rfl) (by rfl) (two_new _ _ _ _) (by simp [Value.oneCell'])
              (by omega) (by unfold maxLen; omega) (by omega) (by have := hb1.size; simp; omega) (w1.heap.size + 1) (by simp) ?_; intro gg cc w2 hown2 hgrow hat hlt2; have hq2 : w2.cell? ⟨bx, 0, none⟩ = some (.int .i16 x1) ∧ w2.cell? ⟨bx, 1, none⟩ = some (.int .i16 x2) := ⟨hgrow.cell ((World.cell?_alloc_past _ _ _ hs1).trans hq1.1) (fun e => by have := lown bx e.symm; omega), hgrow.cell ((World.cell?_alloc_past _ _ _ hs1).trans hq1.2) (fun e => by have := lown bx e.symm; omega)⟩))

      go_wp2
      have hb2' : Below w.heap.size w w2 := (hb1.alloc hb1.size _).grown hgrow (by have := hb1.size; simp; omega) (fun x hx => (hown1.lt x hx).1)
      go_roundw
      case rel => exact ⟨j + 1, by simp, by omega, by rw [HW.out]; exact hown2, fun h => by omega, hb2'⟩
      case measure => simp [intOf]; omega
    · obtain rfl : j = n := by omega
      clear hx
      go_wp2
      go_ret
      exact ⟨_, rfl, .of_own hown hnil (fun i _ => swd_cv x i), hB⟩
end Go.Proofs.Ytmhfdjognikilaa
