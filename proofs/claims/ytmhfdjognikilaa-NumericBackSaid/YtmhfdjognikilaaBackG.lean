/- Layer 16 (numeric), transforms: spectra of one, two or four small whole samples. -/
import Derived.Test.YtmhfdjognikilaaBackF
namespace Go.Proofs.Ytmhfdjognikilaa
open Go.RowKit Go.Shelf Ieee

/-- The word of a whole number that is not below 0, with no sign. -/
def PVal (b : Nat) (n : Int) : Prop := 0 ≤ n ∧ n.natAbs < 2 ^ 24 ∧ b = wordOf false n.natAbs
theorem PVal.val {b : Nat} {n : Int} (h : PVal b n) : Val b n := ⟨h.2.1, false, fun _ => by have := h.1; simp; omega, h.2.2⟩
theorem sq_exact {a : Nat} {n : Int} (h : Val a n) (hb : n * n < 16777216) : ∃ r, single.mul a a = some r ∧ PVal r (n * n) := by
  have h0 : 0 ≤ n * n := by
    rcases Int.le_total 0 n with h | h
    · exact Int.mul_nonneg h h
    · exact Int.mul_nonneg_of_nonpos_of_nonpos h h
  have hlt : (n * n).natAbs < 2 ^ 24 := by have e : 2 ^ 24 = 16777216 := rfl; rw [e]; omega
  obtain ⟨neg, k, -, hd⟩ := h.dat
  refine ⟨wordOf false (n * n).natAbs, ?_, h0, hlt, rfl⟩
  simp only [Format.mul, hd, Datum.product, Option.map_some, Option.some.injEq]
  have e1 : n.natAbs * 2 ^ k * (n.natAbs * 2 ^ k) = (n * n).natAbs * 2 ^ (k + k) := by rw [Int.natAbs_mul, Nat.pow_add]; ac_rfl
  have e2 : -(k : Int) + -(k : Int) = -((k + k : Nat) : Int) := by push_cast; omega
  rw [e1, e2]
  have e3 : (neg ^^ neg) = false := by cases neg <;> rfl
  rw [e3]
  exact nearest_exact false _ (k + k) hlt
theorem PVal.read {b : Nat} {n : Int} (h : PVal b n) : ∃ k : Nat, single.read b = .number false (n.natAbs * 2 ^ k) (-(k : Int)) := by
  obtain ⟨h0, h1, rfl⟩ := h
  rw [read_wordOf false _ h1]
  by_cases hz : n.natAbs = 0
  · exact ⟨149, by simp [hz]⟩
  · exact ⟨23 - n.natAbs.log2, by simp [hz]⟩
theorem PVal.add {a b : Nat} {n m : Int} (h : PVal a n) (g : PVal b m) (hb : n + m < 16777216) : ∃ r, single.add a b = some r ∧ PVal r (n + m) := by
  have hn := h.1
  have hm := g.1
  have hlt : (n + m).natAbs < 2 ^ 24 := by have e : 2 ^ 24 = 16777216 := rfl; rw [e]; omega
  obtain ⟨k, hd⟩ := h.read
  obtain ⟨j, he⟩ := g.read
  refine ⟨wordOf false (n + m).natAbs, ?_, by omega, hlt, rfl⟩
  simp only [Format.add, hd, he, Datum.sum]
  have hbm : min (-(k : Int)) (-(j : Int)) = -((max k j : Nat) : Int) := by omega
  rw [hbm]
  have h1 : (-(k : Int) - -((max k j : Nat) : Int)).toNat = max k j - k := by omega
  have h2 : (-(j : Int) - -((max k j : Nat) : Int)).toNat = max k j - j := by omega
  have sn : n ≠ 0 → false = decide (n < 0) := fun _ => by simp; omega
  have sm : m ≠ 0 → false = decide (m < 0) := fun _ => by simp; omega
  rw [h1, h2, signed_dat false n k _ sn, signed_dat false m j _ sm, show k + (max k j - k) = max k j by omega, show j + (max k j - j) = max k j by omega, ← Int.add_mul]
  have hp := pow_pos' (max k j)
  have hge : 0 ≤ (n + m) * 2 ^ max k j := Int.mul_nonneg (by omega) (by omega)
  have hs : ∀ (p : Prop) [Decidable p] (x y : Bool), x = false → y = false → (if p then x else y) = false := by intro p _ x y hx hy; split <;> assumption
  simp only [Option.map_some, Option.some.injEq]
  rw [natAbs_mul_pow]
  have hsg : (if (n + m) * 2 ^ max k j = 0 then false && false else decide ((n + m) * 2 ^ max k j < 0)) = false := hs _ _ _ rfl (by simp; omega)
  rw [hsg]; exact nearest_exact false _ (max k j) hlt

theorem sq_le {x : Int} {B : Nat} (h : -(B : Int) ≤ x ∧ x ≤ B) : 0 ≤ x * x ∧ x * x ≤ ((B * B : Nat) : Int) := by
  refine ⟨?_, (mul_bd h h).2⟩
  rcases Int.le_total 0 x with h | h
  · exact Int.mul_nonneg h h
  · exact Int.mul_nonneg_of_nonpos_of_nonpos h h
set_option linter.unusedSimpArgs false in
/-- Powers of small real lists stay small. -/
theorem pw_small (s : Nat → Int) (n k : Nat) (hn : n = 1 ∨ n = 2 ∨ n = 4) (hk : k < n) (hs : ∀ j, j < n → -1000 ≤ s j ∧ s j ≤ 1000) : pw (ft (fun j => (s j, 0)) n k) < 16777216 := by
  have key : ∀ (a b : Int) (A B : Nat), -(A : Int) ≤ a ∧ a ≤ A → -(B : Int) ≤ b ∧ b ≤ B → A * A + B * B < 16777216 → pw (a, b) < 16777216 := by
    intro a b A B ha hb h
    have h1 := sq_le ha
    have h2 := sq_le hb
    unfold pw
    simp only
    generalize A * A = P at *
    generalize B * B = Q at *
    omega
  rcases hn with rfl | rfl | rfl
  · have h0 := hs 0 (by omega)
    obtain rfl : k = 0 := by omega
    exact key _ _ 1000 0 (by simp [ft]; omega) (by simp [ft]) (by decide)
  · have h0 := hs 0 (by omega)
    have h1 := hs 1 (by omega)
    have : k = 0 ∨ k = 1 := by omega
    rcases this with rfl | rfl <;> exact key _ _ 2000 0 (by simp [ft, cadd, csub, cmul]; omega) (by simp [ft, cadd, csub, cmul]) (by decide)
  · have h0 := hs 0 (by omega)
    have h1 := hs 1 (by omega)
    have h2 := hs 2 (by omega)
    have h3 := hs 3 (by omega)
    have : k = 0 ∨ k = 1 ∨ k = 2 ∨ k = 3 := by omega
    rcases this with rfl | rfl | rfl | rfl
    · exact key _ _ 4000 0 (by simp [ft, cadd, csub, cmul]; omega) (by simp [ft, cadd, csub, cmul]) (by decide)
    · exact key _ _ 2000 2000 (by simp [ft, cadd, csub, cmul]; omega) (by simp [ft, cadd, csub, cmul]; omega) (by decide)
    · exact key _ _ 4000 0 (by simp [ft, cadd, csub, cmul]; omega) (by simp [ft, cadd, csub, cmul]) (by decide)
    · exact key _ _ 2000 2000 (by simp [ft, cadd, csub, cmul]; omega) (by simp [ft, cadd, csub, cmul]; omega) (by decide)

/-- The power of a value. -/
theorem powerC {p : Nat × Nat} {a : Cx} (h : CV p a) (hb : pw a < 16777216) (w : World) : Is 75 #[.complex .f32 p.1 p.2] w (.float .f32 (wordOf false (pw a).natAbs)) := by
  have s1 : 0 ≤ a.1 * a.1 := by rcases Int.le_total 0 a.1 with h | h; exact Int.mul_nonneg h h; exact Int.mul_nonneg_of_nonpos_of_nonpos h h
  have s2 : 0 ≤ a.2 * a.2 := by rcases Int.le_total 0 a.2 with h | h; exact Int.mul_nonneg h h; exact Int.mul_nonneg_of_nonpos_of_nonpos h h
  unfold pw at hb
  obtain ⟨x1, e1, v1⟩ := sq_exact h.1 (by omega)
  obtain ⟨x2, e2, v2⟩ := sq_exact h.2 (by omega)
  obtain ⟨r, e3, v3⟩ := v1.add v2 hb
  have := power_any p.1 p.2 x1 x2 r w e1 e2 e3
  rw [v3.2.2] at this
  exact this

theorem pw_num {a : Cx} (hb : pw a < 16777216) : Num (wordOf false (pw a).natAbs) := by
  have s1 : 0 ≤ a.1 * a.1 := by rcases Int.le_total 0 a.1 with h | h; exact Int.mul_nonneg h h; exact Int.mul_nonneg_of_nonpos_of_nonpos h h
  have s2 : 0 ≤ a.2 * a.2 := by rcases Int.le_total 0 a.2 with h | h; exact Int.mul_nonneg h h; exact Int.mul_nonneg_of_nonpos_of_nonpos h h
  unfold pw at *
  have e : 2 ^ 24 = 16777216 := rfl
  exact (PVal.val (n := a.1 * a.1 + a.2 * a.2) ⟨by omega, by rw [e]; omega, rfl⟩).num

theorem real_call (b : Nat) (hb : Num b) (w : World) : Is 72 #[.int .u32 b] w (.complex .f32 b 0) := by
  go_enter Try.func72, Try.ntmps72
  go_wp2_with (go_at_call 46; refine (float_any b _ hb).mono ?_; rintro e w' ⟨rfl, rfl⟩)
  go_ret
  exact ⟨rfl, rfl⟩
theorem power_call {p : Nat × Nat} {a : Cx} (h : CV p a) (hb : pw a < 16777216) (w : World) : Is 74 #[.complex .f32 p.1 p.2] w (.int .u32 (wordOf false (pw a).natAbs)) := by
  have h1 := fun w => powerC h hb w
  have h2 := pw_num hb
  clear h hb
  generalize wordOf false (pw a).natAbs = x at *
  go_enter Try.func74, Try.ntmps74
  go_wp2_with (first
    | (go_at_call 75; refine (h1 _).mono ?_; rintro e w' ⟨rfl, rfl⟩)
    | (go_at_call 52; refine (bitsOf_any x _ h2).mono ?_; rintro e w' ⟨rfl, rfl⟩))
  go_ret
  exact ⟨rfl, rfl⟩

set_option maxRecDepth 100000 in
set_option maxHeartbeats 2000000 in
theorem realsP (w : World) (g n cap : Nat) (bs : Nat → Nat) (hn : 1 ≤ n ∧ n ≤ 5) (hg : g < w.heap.size) (hz : ∀ j, j < n → w.cell? ⟨g, j, none⟩ = some (.int .u32 (bs j))) (hv : ∀ j, j < n → Num (bs j)) :
    Calls Try.prog 71 #[.slice (some ⟨g, 0, none⟩) n cap, .func (.func 72) #[] #[]] w fun e W' => ∃ v, e = .returned v ∧ Row W' v n (fun j => (bs j, 0)) ∧ Below w.heap.size w W' := by
  obtain ⟨cs, hmk, hcs⟩ := madeC n hn w
  have hb : n ≤ 5 := hn.2
  go_enter Try.func71, Try.ntmps71
  go_wp2
  have hM0 : Mp w w.heap.size n 0 (fun j => (bs j, 0)) (w.alloc (.cells cs 83)) := by
    refine ⟨(Below.refl _ _).alloc (Nat.le_refl _) _, Nat.le_refl _, by simp, fun j hj => by omega, fun j hj => ?_, fun j hj => ?_⟩
    · rw [(cell_cells (World.alloc_heap_new w _)).1, hcs j hj]; rfl
    · exact (cell_cells (World.alloc_heap_new w _)).2
  clear hmk hcs
  go_loopw [13] (fun i W => ∃ k : Nat, i = .int .i64 k ∧ k ≤ n ∧ Mp w w.heap.size n k (fun j => (bs j, 0)) W) (fun i _ => n - (intOf i).toNat)
  case atStart => exact ⟨0, rfl, Nat.zero_le _, hM0⟩
  case round =>
    obtain ⟨k, rfl, hk, hM⟩ := hrel
    by_cases hlt : k < n
    · have c1 : wr.cell? ⟨g, k, none⟩ = some (.int .u32 (bs k)) := (hM.1.cell (p := ⟨g, k, none⟩) hg).trans (hz k hlt)
      have hcall := real_call (bs k) (hv k hlt)
      obtain ⟨v0, hv0⟩ := Option.isSome_iff_exists.1 (hM.2.2.2.2.1 k hlt)
      have hf0 := hM.2.2.2.2.2 k hlt
      have HM := Lib.hid (hM.set hlt)
      clear hz hv hM0 hM
      go_wp2_with (go_at_call 72; refine (hcall _).mono ?_; rintro e w' ⟨rfl, rfl⟩)
      go_roundw
      case rel => exact ⟨k + 1, by simp, by omega, HM.out⟩
      case measure => simp [intOf]; omega
    · obtain rfl : k = n := by omega
      go_wp2
      go_ret
      exact ⟨_, rfl, ⟨w.heap.size, k, rfl, hM.2.2.1, Nat.le_refl _, hM.2.2.2.1⟩, hM.1⟩

theorem info22 : (Try.prog.info? 22).map (fun i => (i.zero, i.size, i.bytes)) = some (some (.int .u32 0), 1, 4) := by kernel_rfl
theorem madeU (n : Nat) (hn : 1 ≤ n ∧ n ≤ 5) (W : World) : ∃ cs : Array Value, (Instr.makeSlice 54 (.int .i64 n) (.int .i64 n)).run Try.prog W = .ok (.slice (some ⟨W.heap.size, 0, none⟩) n n) (W.alloc (.cells cs 22)) ∧ ∀ j, j < n → cs[j]? = some (.int .u32 0) := by
  obtain ⟨i0, hi, hz0, hz1, hz2⟩ := info_parts info22
  have e := run_makeSlice (P := Try.prog) W 54 22 i0 (.int .u32 0) Try.underlying54 hi hz0 .i64 .i64 n n (by omega) (by omega) (by rw [hz1]; omega) (by rw [hz2]; omega) (by omega)
  rw [hz1, Int.toNat_natCast, Nat.mul_one] at e
  refine ⟨_, e, fun j hj => ?_⟩
  simp [madeCells, Value.cells, hj, Nat.mod_one]
/-- What a round leaves that makes words. -/
def Mu (w : World) (B n k : Nat) (us : Nat → Nat) (W : World) : Prop :=
  Below w.heap.size w W ∧ w.heap.size ≤ B ∧ B < W.heap.size ∧ (∀ j, j < k → W.cell? ⟨B, j, none⟩ = some (.int .u32 (us j))) ∧ (∀ j, j < n → (W.cell? ⟨B, j, none⟩).isSome = true) ∧ (∀ j, j < n → W.frozen? ⟨B, j, none⟩ = false)
theorem Mu.set {w : World} {B n k : Nat} {us : Nat → Nat} {W : World} (hk : k < n) (h : Mu w B n k us W) : Mu w B n (k + 1) us (W.setCell ⟨B, k, none⟩ (.int .u32 (us k))) := by
  obtain ⟨hb, h0, hl, hd, hs, hf⟩ := h
  refine ⟨hb.setCell (p := ⟨B, k, none⟩) h0 _, h0, by simpa using hl, fun j hj => ?_, fun j hj => ?_, fun j hj => by rw [World.frozen?_setCell]; exact hf j hj⟩
  · by_cases e : j = k
    · subst e; exact World.cell?_setCell_same' _ _ _ (hs _ hk)
    · rw [World.cell?_setCell_other _ _ _ _ (by intro e'; cases e'; exact e rfl)]; exact hd j (by omega)
  · obtain ⟨v, hv⟩ := Option.isSome_iff_exists.1 (hs j hj)
    obtain ⟨v', hv'⟩ := cell?_setCell_some (p := ⟨B, k, none⟩) (x := .int .u32 (us k)) hv
    rw [hv']; rfl

set_option maxRecDepth 100000 in
set_option maxHeartbeats 2000000 in
theorem powersP (w : World) (g n cap : Nat) (zs : Nat → Nat × Nat) (c : Nat → Cx) (hn : 1 ≤ n ∧ n ≤ 5) (hg : g < w.heap.size) (hz : ∀ j, j < n → w.cell? ⟨g, j, none⟩ = some (cV (zs j))) (hv : ∀ j, j < n → CV (zs j) (c j) ∧ pw (c j) < 16777216) :
    Calls Try.prog 73 #[.slice (some ⟨g, 0, none⟩) n cap, .func (.func 74) #[] #[]] w fun e W' => ∃ g', e = .returned (.slice (some ⟨g', 0, none⟩) n n) ∧ g' < W'.heap.size ∧ (∀ j, j < n → W'.cell? ⟨g', j, none⟩ = some (.int .u32 (wordOf false (pw (c j)).natAbs))) ∧ Below w.heap.size w W' := by
  obtain ⟨cs, hmk, hcs⟩ := madeU n hn w
  have hb : n ≤ 5 := hn.2
  go_enter Try.func73, Try.ntmps73
  go_wp2
  have hM0 : Mu w w.heap.size n 0 (fun j => wordOf false (pw (c j)).natAbs) (w.alloc (.cells cs 22)) := by
    refine ⟨(Below.refl _ _).alloc (Nat.le_refl _) _, Nat.le_refl _, by simp, fun j hj => by omega, fun j hj => ?_, fun j hj => ?_⟩
    · rw [(cell_cells (World.alloc_heap_new w _)).1, hcs j hj]; rfl
    · exact (cell_cells (World.alloc_heap_new w _)).2
  clear hmk hcs
  go_loopw [13] (fun i W => ∃ k : Nat, i = .int .i64 k ∧ k ≤ n ∧ Mu w w.heap.size n k (fun j => wordOf false (pw (c j)).natAbs) W) (fun i _ => n - (intOf i).toNat)
  case atStart => exact ⟨0, rfl, Nat.zero_le _, hM0⟩
  case round =>
    obtain ⟨k, rfl, hk, hM⟩ := hrel
    by_cases hlt : k < n
    · have c1 : wr.cell? ⟨g, k, none⟩ = some (.complex .f32 (zs k).1 (zs k).2) := (hM.1.cell (p := ⟨g, k, none⟩) hg).trans (hz k hlt)
      have hcall := power_call (hv k hlt).1 (hv k hlt).2
      obtain ⟨v0, hv0⟩ := Option.isSome_iff_exists.1 (hM.2.2.2.2.1 k hlt)
      have hf0 := hM.2.2.2.2.2 k hlt
      have HM := Lib.hid (hM.set hlt)
      clear hz hv hM0 hM
      go_wp2_with (go_at_call 74; refine (hcall _).mono ?_; rintro e w' ⟨rfl, rfl⟩)
      go_roundw
      case rel => exact ⟨k + 1, by simp, by omega, HM.out⟩
      case measure => simp [intOf]; omega
    · obtain rfl : k = n := by omega
      go_wp2
      go_ret
      exact ⟨_, rfl, hM.2.2.1, hM.2.2.2.1, hM.1⟩
end Go.Proofs.Ytmhfdjognikilaa
