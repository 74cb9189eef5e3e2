/- Layer 16 (numeric): lists of numbers as lists of values, and back. -/
import Derived.Test.YtmhfdjognikilaaFloG
namespace Go.Proofs.Ytmhfdjognikilaa
open Go.RowKit Go.Shelf

/-- A list of numbers of the package. -/
def Nums (W : World) (g n : Nat) (zs : Nat → Nat × Nat) : Prop := g < W.heap.size ∧ ∀ j, j < n → W.cell? ⟨g, j * 2, none⟩ = some (.int .u32 (zs j).1) ∧ W.cell? ⟨g, j * 2 + 1, none⟩ = some (.int .u32 (zs j).2)

theorem cell_cells {W : World} {b j : Nat} {cs : Array Value} {t : TypeId} (h : W.heap[b]? = some (.cells cs t)) : W.cell? ⟨b, j, none⟩ = cs[j]? ∧ W.frozen? ⟨b, j, none⟩ = false := by
  constructor <;> simp [World.cell?, World.frozen?, h]

theorem made (n : Nat) (hn : n = 1 ∨ n = 2 ∨ n = 4) (W : World) : ∃ cs : Array Value, (Instr.makeSlice 94 (.int .i64 n) (.int .i64 n)).run Try.prog W = .ok (.slice (some ⟨W.heap.size, 0, none⟩) n n) (W.alloc (.cells cs 83)) ∧ ∀ j, j < n → cs[j]? = some (.complex .f32 0 0) := by
  obtain ⟨i0, hi, hz0, hz1, hz2⟩ := info_parts info83
  have h := fun (m : Int) h0 h1 h2 h3 h4 => run_makeSlice (P := Try.prog) W 94 83 i0 (.complex .f32 0 0) Try.underlying94 hi hz0 .i64 .i64 m m h0 h1 h2 h3 h4
  rcases hn with rfl | rfl | rfl
  · refine ⟨#[.complex .f32 0 0], ?_, fun j hj => by obtain rfl : j = 0 := by omega
                                                     rfl⟩
    have e := h 1 (by omega) (by omega) (by rw [hz1]; decide) (by rw [hz2]; decide) (by omega)
    rw [hz1, show madeCells (Value.complex FloatKind.f32 0 0).cells (Int.toNat 1 * 1) = #[.complex .f32 0 0] by kernel_rfl] at e
    exact e
  · refine ⟨#[.complex .f32 0 0, .complex .f32 0 0], mk2 W, fun j hj => ?_⟩
    have : j = 0 ∨ j = 1 := by omega
    rcases this with rfl | rfl <;> rfl
  · refine ⟨#[.complex .f32 0 0, .complex .f32 0 0, .complex .f32 0 0, .complex .f32 0 0], mk4 W, fun j hj => ?_⟩
    have : j = 0 ∨ j = 1 ∨ j = 2 ∨ j = 3 := by omega
    rcases this with rfl | rfl | rfl | rfl <;> rfl

/-- What a round of mapped leaves. -/
def Mp (w : World) (B n k : Nat) (zs : Nat → Nat × Nat) (W : World) : Prop :=
  Below w.heap.size w W ∧ w.heap.size ≤ B ∧ B < W.heap.size ∧ (∀ j, j < k → W.cell? ⟨B, j, none⟩ = some (cV (zs j))) ∧ (∀ j, j < n → (W.cell? ⟨B, j, none⟩).isSome = true) ∧ (∀ j, j < n → W.frozen? ⟨B, j, none⟩ = false)

theorem Mp.keep {w : World} {B n k : Nat} {zs : Nat → Nat × Nat} {W W' : World} (hB : Below W.heap.size W W') (h : Mp w B n k zs W) : Mp w B n k zs W' := by
  obtain ⟨hb, h0, hl, hd, hs, hf⟩ := h
  have := hB.size
  have := hb.size
  exact ⟨hb.trans (hB.mono (by omega)), h0, by omega, fun j hj => (hB.cell (p := ⟨B, j, none⟩) hl).trans (hd j hj), fun j hj => by rw [hB.cell (p := ⟨B, j, none⟩) hl]; exact hs j hj, fun j hj => (hB.frozen (p := ⟨B, j, none⟩) hl).trans (hf j hj)⟩
theorem Mp.set {w : World} {B n k : Nat} {zs : Nat → Nat × Nat} {W : World} (hk : k < n) (h : Mp w B n k zs W) : Mp w B n (k + 1) zs (W.setCell ⟨B, k, none⟩ (cV (zs k))) := by
  obtain ⟨hb, h0, hl, hd, hs, hf⟩ := h
  refine ⟨hb.setCell (p := ⟨B, k, none⟩) h0 _, h0, by simpa using hl, fun j hj => ?_, fun j hj => ?_, fun j hj => by rw [World.frozen?_setCell]; exact hf j hj⟩
  · by_cases e : j = k
    · subst e; exact World.cell?_setCell_same' _ _ _ (hs _ hk)
    · rw [World.cell?_setCell_other _ _ _ _ (by intro e'; cases e'; exact e rfl)]; exact hd j (by omega)
  · obtain ⟨v, hv⟩ := Option.isSome_iff_exists.1 (hs j hj)
    obtain ⟨v', hv'⟩ := cell?_setCell_some (p := ⟨B, k, none⟩) (x := cV (zs k)) hv
    rw [hv']; rfl

set_option maxRecDepth 100000 in
set_option maxHeartbeats 2000000 in
theorem values_any (w : World) (g n cap : Nat) (zs : Nat → Nat × Nat) (hn : n = 1 ∨ n = 2 ∨ n = 4) (hz : Nums w g n zs) (hv : ∀ j, j < n → Num (zs j).1 ∧ Num (zs j).2) :
    Calls Try.prog 62 #[.slice (some ⟨g, 0, none⟩) n cap, .func (.func 48) #[] #[]] w fun e W' => ∃ v, e = .returned v ∧ Row W' v n zs ∧ Below w.heap.size w W' := by
  obtain ⟨cs, hmk, hcs⟩ := made n hn w
  have hb : n ≤ 4 := by omega
  go_enter Try.func62, Try.ntmps62
  go_wp2
  have hM0 : Mp w w.heap.size n 0 zs (w.alloc (.cells cs 83)) := by
    refine ⟨(Below.refl _ _).alloc (Nat.le_refl _) _, Nat.le_refl _, by simp, fun j hj => by omega, fun j hj => ?_, fun j hj => ?_⟩
    · rw [(cell_cells (World.alloc_heap_new w _)).1, hcs j hj]; rfl
    · exact (cell_cells (World.alloc_heap_new w _)).2
  clear hmk hcs
  go_loopw [13] (fun i W => ∃ k : Nat, i = .int .i64 k ∧ k ≤ n ∧ Mp w w.heap.size n k zs W) (fun i _ => n - (intOf i).toNat)
  case atStart => exact ⟨0, rfl, Nat.zero_le _, hM0⟩
  case round =>
    obtain ⟨k, rfl, hk, hM⟩ := hrel
    by_cases hlt : k < n
    · have c1 := (hM.1.cell (p := ⟨g, k * 2, none⟩) hz.1).trans (hz.2 k hlt).1
      have c2 := (hM.1.cell (p := ⟨g, k * 2 + 1, none⟩) hz.1).trans (hz.2 k hlt).2
      obtain ⟨n1, n2⟩ := hv k hlt
      clear hz hv hM0
      go_wp2_with (go_at_call 48; refine (value_any _ _ _ n1 n2).mono ?_; rintro e w' ⟨rfl, hB1⟩; have hM1 := (hM.keep ((Below.refl _ _).alloc (Nat.le_refl _) _)).keep hB1; obtain ⟨v0, hv0⟩ := Option.isSome_iff_exists.1 (hM1.2.2.2.2.1 k hlt); have hf0 := hM1.2.2.2.2.2 k hlt)
      go_roundw
      case rel => exact ⟨k + 1, by simp, by omega, hM1.set hlt⟩
      case measure => simp [intOf]; omega
    · obtain rfl : k = n := by omega
      go_wp2
      go_ret
      exact ⟨_, rfl, ⟨w.heap.size, k, rfl, hM.2.2.1, Nat.le_refl _, hM.2.2.2.1⟩, hM.1⟩

theorem info32 : (Try.prog.info? 32).map (fun i => (i.zero, i.size, i.bytes)) = some (some (.agg #[.int .u32 0, .int .u32 0]), 2, 8) := by kernel_rfl
theorem made24 (n : Nat) (hn : n = 1 ∨ n = 2 ∨ n = 4) (W : World) : ∃ cs : Array Value, (Instr.makeSlice 24 (.int .i64 n) (.int .i64 n)).run Try.prog W = .ok (.slice (some ⟨W.heap.size, 0, none⟩) n n) (W.alloc (.cells cs 32)) ∧ ∀ j, j < 2 * n → cs[j]? = some (.int .u32 0) := by
  obtain ⟨i0, hi, hz0, hz1, hz2⟩ := info_parts info32
  have h := fun (m : Int) h0 h1 h2 h3 h4 => run_makeSlice (P := Try.prog) W 24 32 i0 (.agg #[.int .u32 0, .int .u32 0]) Try.underlying24 hi hz0 .i64 .i64 m m h0 h1 h2 h3 h4
  rcases hn with rfl | rfl | rfl
  · have e := h 1 (by omega) (by omega) (by rw [hz1]; decide) (by rw [hz2]; decide) (by omega)
    rw [hz1, show madeCells (Value.agg #[.int .u32 0, .int .u32 0]).cells (Int.toNat 1 * 2) = #[.int .u32 0, .int .u32 0] by kernel_rfl] at e
    refine ⟨_, e, fun j hj => ?_⟩
    have : j = 0 ∨ j = 1 := by omega
    rcases this with rfl | rfl <;> rfl
  · have e := h 2 (by omega) (by omega) (by rw [hz1]; decide) (by rw [hz2]; decide) (by omega)
    rw [hz1, show madeCells (Value.agg #[.int .u32 0, .int .u32 0]).cells (Int.toNat 2 * 2) = #[.int .u32 0, .int .u32 0, .int .u32 0, .int .u32 0] by kernel_rfl] at e
    refine ⟨_, e, fun j hj => ?_⟩
    have : j = 0 ∨ j = 1 ∨ j = 2 ∨ j = 3 := by omega
    rcases this with rfl | rfl | rfl | rfl <;> rfl
  · have e := h 4 (by omega) (by omega) (by rw [hz1]; decide) (by rw [hz2]; decide) (by omega)
    rw [hz1, show madeCells (Value.agg #[.int .u32 0, .int .u32 0]).cells (Int.toNat 4 * 2) = #[.int .u32 0, .int .u32 0, .int .u32 0, .int .u32 0, .int .u32 0, .int .u32 0, .int .u32 0, .int .u32 0] by kernel_rfl] at e
    refine ⟨_, e, fun j hj => ?_⟩
    have : j = 0 ∨ j = 1 ∨ j = 2 ∨ j = 3 ∨ j = 4 ∨ j = 5 ∨ j = 6 ∨ j = 7 := by omega
    rcases this with rfl | rfl | rfl | rfl | rfl | rfl | rfl | rfl <;> rfl

/-- What a round leaves that makes numbers. -/
def Mq (w : World) (B n k : Nat) (zs : Nat → Nat × Nat) (W : World) : Prop :=
  Below w.heap.size w W ∧ w.heap.size ≤ B ∧ B < W.heap.size ∧ (∀ j, j < k → W.cell? ⟨B, j * 2, none⟩ = some (.int .u32 (zs j).1) ∧ W.cell? ⟨B, j * 2 + 1, none⟩ = some (.int .u32 (zs j).2)) ∧ (∀ j, j < 2 * n → (W.cell? ⟨B, j, none⟩).isSome = true) ∧ (∀ j, j < 2 * n → W.frozen? ⟨B, j, none⟩ = false)
theorem Mq.keep {w : World} {B n k : Nat} {zs : Nat → Nat × Nat} {W W' : World} (hB : Below W.heap.size W W') (h : Mq w B n k zs W) : Mq w B n k zs W' := by
  obtain ⟨hb, h0, hl, hd, hs, hf⟩ := h
  have := hB.size
  have := hb.size
  exact ⟨hb.trans (hB.mono (by omega)), h0, by omega, fun j hj => ⟨(hB.cell (p := ⟨B, j * 2, none⟩) hl).trans (hd j hj).1, (hB.cell (p := ⟨B, j * 2 + 1, none⟩) hl).trans (hd j hj).2⟩, fun j hj => by rw [hB.cell (p := ⟨B, j, none⟩) hl]; exact hs j hj, fun j hj => (hB.frozen (p := ⟨B, j, none⟩) hl).trans (hf j hj)⟩
theorem Mq.set {w : World} {B n k : Nat} {zs : Nat → Nat × Nat} {W : World} (hk : k < n) (h : Mq w B n k zs W) : Mq w B n (k + 1) zs ((W.setCell ⟨B, k * 2, none⟩ (.int .u32 (zs k).1)).setCell ⟨B, k * 2 + 1, none⟩ (.int .u32 (zs k).2)) := by
  obtain ⟨hb, h0, hl, hd, hs, hf⟩ := h
  have oth : ∀ j, j ≠ k * 2 → j ≠ k * 2 + 1 → ((W.setCell ⟨B, k * 2, none⟩ (.int .u32 (zs k).1)).setCell ⟨B, k * 2 + 1, none⟩ (.int .u32 (zs k).2)).cell? ⟨B, j, none⟩ = W.cell? ⟨B, j, none⟩ := fun j h1 h2 =>
    (World.cell?_setCell_other _ _ _ _ (by intro e; cases e; exact h2 rfl)).trans (World.cell?_setCell_other _ _ _ _ (by intro e; cases e; exact h1 rfl))
  have s0 : ((W.setCell ⟨B, k * 2, none⟩ (.int .u32 (zs k).1)).setCell ⟨B, k * 2 + 1, none⟩ (.int .u32 (zs k).2)).cell? ⟨B, k * 2, none⟩ = some (.int .u32 (zs k).1) :=
    (World.cell?_setCell_other _ _ _ _ (by intro e; injection e with _ e; omega)).trans (World.cell?_setCell_same' _ _ _ (hs _ (by omega)))
  have s1 : ((W.setCell ⟨B, k * 2, none⟩ (.int .u32 (zs k).1)).setCell ⟨B, k * 2 + 1, none⟩ (.int .u32 (zs k).2)).cell? ⟨B, k * 2 + 1, none⟩ = some (.int .u32 (zs k).2) := by
    obtain ⟨v, hv⟩ := Option.isSome_iff_exists.1 (hs (k * 2 + 1) (by omega))
    obtain ⟨v', hv'⟩ := cell?_setCell_some (p := ⟨B, k * 2, none⟩) (x := .int .u32 (zs k).1) hv
    exact World.cell?_setCell_same _ _ _ hv'
  refine ⟨(hb.setCell (p := ⟨B, k * 2, none⟩) h0 _).setCell (p := ⟨B, k * 2 + 1, none⟩) h0 _, h0, by simpa using hl, fun j hj => ?_, fun j hj => ?_, fun j hj => by rw [World.frozen?_setCell, World.frozen?_setCell]; exact hf j hj⟩
  · by_cases e : j = k
    · subst e; exact ⟨s0, s1⟩
    · rw [oth _ (by omega) (by omega), oth _ (by omega) (by omega)]; exact hd j (by omega)
  · by_cases e : j = k * 2
    · subst e; rw [s0]; rfl
    · by_cases e' : j = k * 2 + 1
      · subst e'; rw [s1]; rfl
      · rw [oth _ e e']; exact hs j hj

set_option maxRecDepth 100000 in
set_option maxHeartbeats 2000000 in
theorem numbers_any (w : World) (g n cap : Nat) (zs : Nat → Nat × Nat) (hn : n = 1 ∨ n = 2 ∨ n = 4) (hg : g < w.heap.size) (hz : ∀ j, j < n → w.cell? ⟨g, j, none⟩ = some (cV (zs j))) (hv : ∀ j, j < n → Num (zs j).1 ∧ Num (zs j).2) :
    Calls Try.prog 63 #[.slice (some ⟨g, 0, none⟩) n cap, .func (.func 47) #[] #[]] w fun e W' => ∃ g', e = .returned (.slice (some ⟨g', 0, none⟩) n n) ∧ Nums W' g' n zs ∧ Below w.heap.size w W' := by
  obtain ⟨cs, hmk, hcs⟩ := made24 n hn w
  have hb : n ≤ 4 := by omega
  go_enter Try.func63, Try.ntmps63
  go_wp2
  have hM0 : Mq w w.heap.size n 0 zs (w.alloc (.cells cs 32)) := by
    refine ⟨(Below.refl _ _).alloc (Nat.le_refl _) _, Nat.le_refl _, by simp, fun j hj => by omega, fun j hj => ?_, fun j hj => ?_⟩
    · rw [(cell_cells (World.alloc_heap_new w _)).1, hcs j hj]; rfl
    · exact (cell_cells (World.alloc_heap_new w _)).2
  clear hmk hcs
  go_loopw [13] (fun i W => ∃ k : Nat, i = .int .i64 k ∧ k ≤ n ∧ Mq w w.heap.size n k zs W) (fun i _ => n - (intOf i).toNat)
  case atStart => exact ⟨0, rfl, Nat.zero_le _, hM0⟩
  case round =>
    obtain ⟨k, rfl, hk, hM⟩ := hrel
    by_cases hlt : k < n
    · have c1 : wr.cell? ⟨g, k, none⟩ = some (.complex .f32 (zs k).1 (zs k).2) := (hM.1.cell (p := ⟨g, k, none⟩) hg).trans (hz k hlt)
      obtain ⟨n1, n2⟩ := hv k hlt
      clear hz hv hM0
      go_wp2_with (go_at_call 47; refine (number_any _ _ _ n1 n2).mono ?_; rintro e w' ⟨rfl, hB1⟩; have hM1 := hM.keep hB1; obtain ⟨v0, hv0⟩ := Option.isSome_iff_exists.1 (hM1.2.2.2.2.1 (k * 2) (by omega)); obtain ⟨v1, hv1⟩ := Option.isSome_iff_exists.1 (hM1.2.2.2.2.1 (k * 2 + 1) (by omega)); have hf0 := hM1.2.2.2.2.2 (k * 2) (by omega); have hf1 := hM1.2.2.2.2.2 (k * 2 + 1) (by omega))
      go_roundw
      case rel => exact ⟨k + 1, by simp, by omega, hM1.set hlt⟩
      case measure => simp [intOf]; omega
    · obtain rfl : k = n := by omega
      go_wp2
      go_ret
      exact ⟨_, rfl, ⟨hM.2.2.1, hM.2.2.2.1⟩, hM.1⟩

end Go.Proofs.Ytmhfdjognikilaa
