/- Layer 16 (numeric), transforms: the law's own walk. -/
import Derived.Test.YtmhfdjognikilaaBackI
namespace Go.Proofs.Ytmhfdjognikilaa
open Go.RowKit Go.Shelf

/-- An element of each of two lists. -/
abbrev Q4 (g h j : Nat) (y z : Nat × Nat) (W : World) : Prop := W.cell? ⟨g, j * 2, none⟩ = some (.int .u32 y.1) ∧ W.cell? ⟨g, j * 2 + 1, none⟩ = some (.int .u32 y.2) ∧ W.cell? ⟨h, j * 2, none⟩ = some (.int .u32 z.1) ∧ W.cell? ⟨h, j * 2 + 1, none⟩ = some (.int .u32 z.2)
theorem Q4.of {g h j B : Nat} {y z : Nat × Nat} {w W : World} (hB : Below B w W) (hg : g < B) (hh : h < B) (q : Q4 g h j y z w) : Q4 g h j y z W :=
  ⟨(hB.cell (p := ⟨g, j * 2, none⟩) hg).trans q.1, (hB.cell (p := ⟨g, j * 2 + 1, none⟩) hg).trans q.2.1, (hB.cell (p := ⟨h, j * 2, none⟩) hh).trans q.2.2.1, (hB.cell (p := ⟨h, j * 2 + 1, none⟩) hh).trans q.2.2.2⟩
theorem q4 {g h n j : Nat} {ys zs : Nat → Nat × Nat} {w : World} (hy : Nums w g n ys) (hz : Nums w h n zs) (hj : j < n) : Q4 g h j (ys j) (zs j) w := ⟨(hy.2 j hj).1, (hy.2 j hj).2, (hz.2 j hj).1, (hz.2 j hj).2⟩
theorem own_grown {W W' : World} {B base e size n : Nat} {v : Value} {xs : List Value} {w : World} (hB : Below B w W) (hb : B ≤ base) (hw : B ≤ W.heap.size) (h : W.ownsRow base e size v n xs) (hg : W.grownBy W' v.ownBlock) : Below B w W' :=
  hB.grown hg hw (fun x hx => by have := (h.lt x hx).1; omega)

/-- Lists of one length that are there. -/
def All (W : World) (n : Nat) (l : List (Value × (Nat → Cx))) : Prop := ∀ p ∈ l, LN W p.1 n p.2
theorem All.below {w w' : World} {n : Nat} {l : List (Value × (Nat → Cx))} (hB : Below w.heap.size w w') (h : All w n l) : All w' n l := fun p hp => (h p hp).below hB
theorem All.nil (W : World) (n : Nat) : All W n [] := fun p hp => by cases hp
theorem All.add {W : World} {n : Nat} {v : Value} {c : Nat → Cx} {l : List (Value × (Nat → Cx))} (hv : LN W v n c) (h : All W n l) : All W n ((v, c) :: l) := fun p hp => by
  rcases List.mem_cons.1 hp with rfl | hp
  · exact hv
  · exact h p hp
theorem All.get {W : World} {n : Nat} {v : Value} {c : Nat → Cx} {l : List (Value × (Nat → Cx))} (i : Nat) (hi : l[i]? = some (v, c)) (h : All W n l) : LN W v n c := h (v, c) (List.mem_of_getElem? hi)

theorem LN.slice {W : World} {v : Value} {n : Nat} {c : Nat → Cx} (h : LN W v n c) (hn : 1 ≤ n) : ∃ g cap, v = .slice (some ⟨g, 0, none⟩) n cap := by
  obtain ⟨zs, ⟨g, cap, hv, -⟩, -⟩ := h.words hn
  exact ⟨g, cap, hv⟩
theorem LW.nums {W : World} {g n cap : Nat} {zs : Nat → Nat × Nat} (h : LW W (.slice (some ⟨g, 0, none⟩) n cap) n zs) : Nums W g n zs := by
  obtain ⟨g', cap', hv, -, hN⟩ := h
  cases hv
  exact hN
/-- Words that lie in a block of the call's own. -/
def wordsU (us : Nat → Nat) (k : Nat) : List Value := upto (fun j => Value.int .u32 (us j)) k
theorem wordsU_succ (us : Nat → Nat) (k : Nat) : wordsU us (k + 1) = wordsU us k ++ [.int .u32 (us k)] := upto_succ _ _
theorem wordsU_get (us : Nat → Nat) (k j : Nat) (h : j < k) : (wordsU us k)[j]? = some (.int .u32 (us j)) := by simp [wordsU, upto, h]
def LU (W : World) (v : Value) (n : Nat) (us : Nat → Nat) : Prop := ∃ g cap, v = .slice (some ⟨g, 0, none⟩) n cap ∧ g < W.heap.size ∧ ∀ j, j < n → W.cell? ⟨g, j, none⟩ = some (.int .u32 (us j))
theorem LU.of_own {W : World} {base n : Nat} {v : Value} {us : Nat → Nat} (h : W.ownsRow base 22 1 v n (wordsU us n)) (hn : 1 ≤ n) : LU W v n us := by
  rcases h.2 with ⟨-, h1⟩ | ⟨g, cap, cur, rfl, -, hg, hle, -⟩
  · omega
  · refine ⟨g, cap, rfl, (Array.getElem?_eq_some_iff.1 hg).1, fun j hj => ?_⟩
    have k1 := h.cells (g := g) rfl _ _ (wordsU_get us n j hj)
    rwa [add_zero] at k1
theorem LU.below {w w' : World} {v : Value} {n : Nat} {us : Nat → Nat} (hB : Below w.heap.size w w') (h : LU w v n us) : LU w' v n us := by
  obtain ⟨g, cap, hv, hg, hc⟩ := h
  exact ⟨g, cap, hv, Nat.lt_of_lt_of_le hg hB.size, fun j hj => (hB.cell (p := ⟨g, j, none⟩) hg).trans (hc j hj)⟩
theorem one_new (w : World) (a : Value) (t : TypeId) : ∀ (j : Nat) (u : Value), [a][j]? = some u → (w.alloc (.cells #[a] t)).cell? ((⟨w.heap.size, 0, none⟩ : Addr).add j) = some u := by
  intro j u h
  have hh := World.alloc_heap_new w (.cells #[a] t)
  rw [add_zero, (cell_cells hh).1]
  simpa using h
/-- The samples' words. -/
def smp (a : Nat → Int × Int) (j : Nat) : Nat := floatOfInt .f32 ((a j).1.tmod 1001)
theorem LN.to {W : World} {v : Value} {n : Nat} {c c' : Nat → Cx} (h : LN W v n c) (hc : ∀ k, k < n → c' k = c k) : LN W v n c' := by
  obtain ⟨zs, h, hz⟩ := h
  exact ⟨zs, h, fun j hj => by rw [hc j hj]; exact hz j hj⟩
theorem smp_val (a : Nat → Int × Int) (j : Nat) : Val (smp a j) ((a j).1.tmod 1001) := (swd_cv a j).1
theorem smp_bd (a : Nat → Int × Int) (j : Nat) : -1000 ≤ (a j).1.tmod 1001 ∧ (a j).1.tmod 1001 ≤ 1000 := (sml_bd a j).1
theorem max_zero (w : World) : (Builtin.max_ #[48, 48, 48, 48, 48, 48] 48 #[.int .i64 0, .int .i64 0, .int .i64 0, .int .i64 0, .int .i64 0, .int .i64 0]).run Try.prog w = .ok (.int .i64 0) w := by kernel_rfl

set_option maxRecDepth 100000 in
set_option maxHeartbeats 4000000 in
theorem back_walk (w : World) (a b : Nat → Int × Int) (k : Int) (ha : Small16 a) (hb : Small16 b) (hk : 0 ≤ k ∧ k < 256) :
    Calls Try.prog 7 #[quad a, quad b, .int .u8 k] w fun e W' => e = .returned (.bool true) ∧ Below w.heap.size w W' := by
  obtain ⟨hk1, hk2⟩ := hk
  obtain ⟨n, hn, hpow⟩ : ∃ n : Nat, (n = 1 ∨ n = 2 ∨ n = 4) ∧ (2 : Int) ^ (k % 3).toNat = (n : Int) := by
    have h3 : k % 3 = 0 ∨ k % 3 = 1 ∨ k % 3 = 2 := by omega
    rcases h3 with h | h | h <;> rw [h]
    · exact ⟨1, by omega, rfl⟩
    · exact ⟨2, by omega, rfl⟩
    · exact ⟨4, by omega, rfl⟩
  have hn1 : 1 ≤ n := by omega
  have hn4 : n ≤ 4 := by omega
  have hal : Try.prog.arrayLen 69 = 4 := by kernel_rfl
  have hsl : ∀ (b : Nat) (w : World), (Instr.sliceAt 69 (.pointer (some ⟨b, 0, none⟩)) none (some (.int .i64 (n : Int))) none).run Try.prog w = .ok (.slice (some ⟨b, 0, none⟩) n 4) w := by
    intro b w
    rw [run_sliceAt_array_h (P := Try.prog) (w := w) (t := 69) (a := ⟨b, 0, none⟩) (by kernel_rfl) .i64 n (by omega) (by rw [hal]; omega), hal]
    have hz : (sizeOf (Try.prog.elem 69)).run Try.prog w = .ok 2 w := by kernel_rfl
    rw [hz]
    simp [Result.andThen, slicedAt, Addr.add]
  have hS := Boxes.new w a b ha hb
  clear hal
  go_enter Try.func7, Try.ntmps7
  go_wp2_with fail
  have HP := Lib.hid hpow
  clear hpow
  obtain ⟨w0, hw0⟩ : ∃ w0, (w.alloc (.cells #[.int .i16 (a 0).1, .int .i16 (a 0).2, .int .i16 (a 1).1, .int .i16 (a 1).2, .int .i16 (a 2).1, .int .i16 (a 2).2, .int .i16 (a 3).1, .int .i16 (a 3).2] 69)).alloc
    (.cells #[.int .i16 (b 0).1, .int .i16 (b 0).2, .int .i16 (b 1).1, .int .i16 (b 1).2, .int .i16 (b 2).1, .int .i16 (b 2).2, .int .i16 (b 3).1, .int .i16 (b 3).2] 69) = w0 := ⟨_, rfl⟩
  rw [hw0] at hS ⊢
  clear hw0
  have hS0 := hS.keep (Below.refl _ w0).drew
  have hc0 : w0.drew.cell? ⟨w.heap.size, 0, none⟩ = some (.int .i16 (a 0).1) ∧ w0.drew.cell? ⟨w.heap.size, 1, none⟩ = some (.int .i16 (a 0).2) := (hS0.2.1.2 0 (by omega)).1
  have hPa := hS0.2.1.less hn4
  clear hS
  go_region_held3 (fun W => W.cell? ⟨w.heap.size, 0, none⟩ = some (.int .i16 (a 0).1) ∧ W.cell? ⟨w.heap.size, 1, none⟩ = some (.int .i16 (a 0).2))
    (first | assumption)
    (first
      | (go_at_call 42; ((with_reducible refine (numbers16 _ w.heap.size n 4 a hn4 hPa).mono ?_); rintro e w1 ⟨va, rfl, hva, hB1⟩; have hS1 := hS0.keep hB1; have hPb := hS1.2.2.less hn4; have hc1 : w1.cell? ⟨w.heap.size, 0, none⟩ = some (.int .i16 (a 0).1) ∧ w1.cell? ⟨w.heap.size, 1, none⟩ = some (.int .i16 (a 0).2) := (hS1.2.1.2 0 (by omega)).1))
      | (go_at_call 42; ((with_reducible refine (numbers16 _ (w.heap.size + 1) n 4 b hn4 hPb).mono ?_); rintro e w2 ⟨vb, rfl, hvb, hB2⟩; have hS2 := hS1.keep hB2; have hc2 : w2.cell? ⟨w.heap.size, 0, none⟩ = some (.int .i16 (a 0).1) ∧ w2.cell? ⟨w.heap.size, 1, none⟩ = some (.int .i16 (a 0).2) := (hS2.2.1.2 0 (by omega)).1)))
  obtain ⟨za, hla, hca⟩ := (hva.below hB2).words hn1
  obtain ⟨zb, hlb, hcb⟩ := hvb.words hn1
  clear hva hvb hB1 hB2 hS0 hS1 hc0 hc1 hc2
  obtain ⟨ss, hss⟩ := sums_words (fun j hj => ⟨hca j hj, sml_bd a j⟩) (fun j hj => ⟨hcb j hj, sml_bd b j⟩) (by decide)
  obtain ⟨ga, ca, rfl, hla1, hna⟩ := hla
  obtain ⟨gb, cb, rfl, hlb1, hnb⟩ := hlb
  obtain ⟨tt, htt⟩ : ∃ tt : Nat → Nat × Nat, tt = fun j => za ((j + n - 1) % n) := ⟨_, rfl⟩
  obtain ⟨i0, hi, hz0, hz1, hz2⟩ := info_parts info32
  have hR0 := Rows2.start w2 w2.heap.size ss tt
  go_wp2_with fail
  obtain ⟨B, hB⟩ : ∃ B, w2.heap.size = B := ⟨_, rfl⟩
  have hga : ga < B := by rw [← hB]; exact hna.1
  have hgb : gb < B := by rw [← hB]; exact hnb.1
  rw [hB] at hR0
  go_loopw [10, 11, 44] (fun s t i W => ∃ j : Nat, i = .int .i64 j ∧ j ≤ n ∧ Rows2 B j j ss tt s t W ∧ Below B w2 W) (fun _ _ i _ => n - (intOf i).toNat)
  case atStart => exact ⟨0, rfl, by omega, hR0, Below.refl _ _⟩
  case round =>
    obtain ⟨j, rfl, hj, hR, hBj⟩ := hrel
    clear hR0
    by_cases hlt : j < n
    · have hq := Q4.of hBj hga hgb (q4 hna hnb hlt)
      have hcall := (hss j hlt).2
      have HQ := Lib.hid (q4 hna hnb hlt)
      have HT := Lib.hid hna
      have HC := Lib.hid (show cellsN ss (j + 1) = cellsN ss j ++ [.int .u32 (ss j).1, .int .u32 (ss j).2] from cellsN_succ _ _)
      have HD := Lib.hid (show cellsN tt (j + 1) = cellsN tt j ++ [.int .u32 (tt j).1, .int .u32 (tt j).2] from cellsN_succ _ _)
      have HB := Lib.hid hB
      have HTT := Lib.hid (show tt j = za ((j + n - 1) % n) by rw [htt])
      have hBs : B ≤ wr.heap.size := by have := hBj.size; omega
      clear hna hnb hss hca hcb htt hB
      go_wp2_with fail
      have hRd := hR.below (Below.refl _ wr).drew
      have hBd := hBj.drew
      have hq0 : Q4 ga gb j (za j) (zb j) wr.drew := hq
      clear hR hq
      go_region_held3 (fun W => W.cell? ⟨ga, j * 2, none⟩ = some (.int .u32 (za j).1) ∧ W.cell? ⟨ga, j * 2 + 1, none⟩ = some (.int .u32 (za j).2) ∧ W.cell? ⟨gb, j * 2, none⟩ = some (.int .u32 (zb j).1) ∧ W.cell? ⟨gb, j * 2 + 1, none⟩ = some (.int .u32 (zb j).2))
        (first | assumption | exact Q4.of (by assumption) hga hgb HQ.out | go_keep)
        (first
          | (go_at_call 13; ((refine (hcall _).mono ?_); rintro e w3 ⟨rfl, hB3⟩; have hR3 := hRd.below hB3; have hBw3 := hBd.trans (hB3.mono hBs); have hq3 := Q4.of hBw3 hga hgb HQ.out; have hBs3 : B ≤ w3.heap.size := Nat.le_trans hBs hB3.size))
          | (refine step_append_lies _ (by rfl) _ _ _ (by rfl) B 32 i0 _ 2 8 Try.underlying24 hi hz0 hz1 hz2 rfl (by omega) u10 j _ (by rfl) ((hR3.below ((Below.refl _ _).alloc (Nat.le_refl _) _)).1) ⟨w3.heap.size, 0, none⟩ 1 1 [.int .u32 (ss j).1, .int .u32 (ss j).2] (by rfl) (by rfl) (two_new _ _ _ _) (by simp [Value.oneCell'])
              (by omega) (by unfold maxLen; omega) (by omega) (by simp; omega) (w3.heap.size + 1) (by simp) ?_; intro gg cc w4 hown4 hgrow4 hat4 hlt4; have hBw4 := own_grown (hBw3.alloc hBs3 (.cells #[.int .u32 (ss j).1, .int .u32 (ss j).2] 32)) (Nat.le_refl _) (by simp; omega) ((hR3.below ((Below.refl _ _).alloc (Nat.le_refl _) (.cells #[.int .u32 (ss j).1, .int .u32 (ss j).2] 32))).1) hgrow4; have hq4 := Q4.of hBw4 hga hgb HQ.out))
      have hR4 := Rows2.first (hR3.below ((Below.refl _ _).alloc (Nat.le_refl _) (.cells #[.int .u32 (ss j).1, .int .u32 (ss j).2] 32))) hgrow4 hat4 (by simp) (by rw [HC.out]; exact hown4)
      have hBs4 : B ≤ w4.heap.size := by have h1 := hBw4.size; have h2 := HB.out; omega
      obtain ⟨mm, hmm⟩ : ∃ mm, (j + n - 1) % n = mm := ⟨_, rfl⟩
      have hmn : mm < n := by rw [← hmm]; exact Nat.mod_lt _ (by omega)
      have hidx : ((j : Int) + (n : Int) - 1).tmod (n : Int) = (mm : Int) := by
        rw [show (j : Int) + (n : Int) - 1 = ((j + n - 1 : Nat) : Int) by omega, ← hmm]
        exact (Int.ofNat_tmod _ _).symm
      have hidx' : ((j : Int) + (n : Int) - 1) % (n : Int) = (mm : Int) := by
        rw [show (j : Int) + (n : Int) - 1 = ((j + n - 1 : Nat) : Int) by omega, ← hmm]
        rfl
      have d1 : w4.cell? ⟨ga, mm * 2, none⟩ = some (.int .u32 (za mm).1) := (hBw4.cell (p := ⟨ga, mm * 2, none⟩) hga).trans (HT.out.2 mm hmn).1
      have d2 : w4.cell? ⟨ga, mm * 2 + 1, none⟩ = some (.int .u32 (za mm).2) := (hBw4.cell (p := ⟨ga, mm * 2 + 1, none⟩) hga).trans (HT.out.2 mm hmn).2
      have hne0 : ((n : Int) == 0) = false := by rw [beq_eq_false_iff_ne]; omega
      have lg4 : ga < w4.heap.size := by omega
      have HM := Lib.hid hmm
      clear hmm hRd hBd hq0 hR3 hBw3 hq3 hq4 hgrow4 hown4 hat4
      go_wp2_with (at_builtin; refine wpList_append_lies _ rfl _ _ 24 rfl B 32 i0 (.agg #[.int .u32 0, .int .u32 0]) 2 8 Try.underlying24 hi hz0 hz1 hz2 rfl (by decide) _ _ _ rfl ((hR4.below ((Below.refl _ _).alloc (Nat.le_refl _) _)).2.1) ⟨w4.heap.size, 0, none⟩ 1 1 [.int .u32 (za mm).1, .int .u32 (za mm).2] rfl rfl (two_new _ _ _ _) (by simp [Value.oneCell']) (by omega) (by unfold maxLen; omega) (by omega) (by simp; omega) (w4.heap.size + 1) (by simp) ?_; intro g5 c5 w5 hown5 hgrow5 hat5 hlt5)
      have htj : tt j = za mm := by rw [HTT.out, HM.out]
      have hR5 := Rows2.second (hR4.below ((Below.refl _ _).alloc (Nat.le_refl _) (.cells #[.int .u32 (za mm).1, .int .u32 (za mm).2] 32))) hgrow5 hat5 (by simp) (by rw [HD.out, htj]; exact hown5)
      have hBw5 := own_grown (hBw4.alloc hBs4 (.cells #[.int .u32 (za mm).1, .int .u32 (za mm).2] 32)) (Nat.le_refl _) (by simp; omega) ((hR4.below ((Below.refl _ _).alloc (Nat.le_refl _) (.cells #[.int .u32 (za mm).1, .int .u32 (za mm).2] 32))).2.1) hgrow5
      clear hidx hidx' hgrow5 hat5 hown5 d1 d2
      go_roundw
      case rel => exact ⟨j + 1, by simp, by omega, hR5, hBw5⟩
      case measure => simp [intOf]; omega
    · obtain rfl : j = n := by omega
      have hS3 : Boxes w a b wr := hS2.keep (by rw [hB]; exact hBj)
      obtain ⟨va', hva'⟩ : ∃ v : Value, v = .slice (some ⟨ga, 0, none⟩) j ca := ⟨_, rfl⟩
      obtain ⟨vb', hvb'⟩ : ∃ v : Value, v = .slice (some ⟨gb, 0, none⟩) j cb := ⟨_, rfl⟩
      have la := LN.below (w := w2) (by rw [hB]; exact hBj) (LW.ln (c := sml a) (v := va') ⟨ga, ca, hva', hla1, hna⟩ hn1 hca)
      have lb := LN.below (w := w2) (by rw [hB]; exact hBj) (LW.ln (c := sml b) (v := vb') ⟨gb, cb, hvb', hlb1, hnb⟩ hn1 hcb)
      rw [← hva', ← hvb']
      clear hva' hvb'
      have ls : LN wr u10 j (fun i => cadd (sml a i) (sml b i)) := (LW.of_own hR.1 hn1).ln hn1 (fun i hi => (hss i hi).1)
      have lt : LN wr u11 j (fun i => sml a ((i + j - 1) % j)) := (LW.of_own hR.2.1 hn1).ln hn1 (fun i hi => by rw [htt]; exact hca _ (Nat.mod_lt _ (by omega)))
      clear hR hBj hna hnb hss hca hcb htt hB hga hgb hS2 hi hz0 hz1 hz2 hPa hPb hsl
      generalize u10 = vs at *
      generalize u11 = vt at *
      have hA0 : All wr j [(va', sml a), (vb', sml b), (vs, fun i => cadd (sml a i) (sml b i)), (vt, fun i => sml a ((i + j - 1) % j))] := .add la (.add lb (.add ls (.add lt (.nil _ _))))
      clear la lb ls lt
      go_wp2_with fail
      refine (transformC _ _ j _ hn (hA0.get 0 rfl) (fun i _ => (sml_bd a i).mono (by decide))).mono ?_
      rintro e w3 ⟨vp, rfl, hp, hB3⟩
      have hA1 := (hA0.below hB3).add hp
      have hS4 := hS3.keep hB3
      clear hA0 hp hB3 hS3
      go_wp2_with fail
      refine (transformC _ _ j _ hn (hA1.get 2 rfl) (fun i _ => (sml_bd b i).mono (by decide))).mono ?_
      rintro e w4 ⟨vq, rfl, hp, hB3⟩
      have hA2 := (hA1.below hB3).add hp
      have hS5 := hS4.keep hB3
      clear hA1 hp hB3 hS4
      go_wp2_with fail
      refine (transformC _ _ j _ hn (hA2.get 4 rfl) (fun i _ => ((sml_bd a i).add (sml_bd b i)).mono (by decide))).mono ?_
      rintro e w5 ⟨vr, rfl, hp, hB3⟩
      have hA3 := (hA2.below hB3).add hp
      have hS6 := hS5.keep hB3
      clear hA2 hp hB3 hS5
      go_wp2_with fail
      refine (backC _ _ j _ (sml a) hn (hA3.get 2 rfl) (fun i _ => (ft_bd hn (fun i _ => sml_bd a i) i).mono (by omega)) (fun i hi => ft_back (sml a) j i hn hi)).mono ?_
      rintro e w6 ⟨vu, rfl, hp, hB3⟩
      have hA4 := (hA3.below hB3).add hp
      have hS7 := hS6.keep hB3
      clear hA3 hp hB3 hS6
      go_wp2_with fail
      refine (transformC _ _ j _ hn (hA4.get 7 rfl) (fun i _ => (sml_bd a _).mono (by decide))).mono ?_
      rintro e w7 ⟨vv, rfl, hp, hB3⟩
      have hA5 := (hA4.below hB3).add hp
      have hS8 := hS7.keep hB3
      clear hA4 hp hB3 hS7
      go_wp2_with fail
      refine (twiddlesC _ j hn).mono ?_
      rintro e w8 ⟨vw, rfl, hp, hB3⟩
      have hA6 := (hA5.below hB3).add hp
      have hS9 := hS8.keep hB3
      clear hA5 hp hB3 hS8
      have hmx := max_zero
      obtain ⟨gp, cp, rfl⟩ := (hA6.get 5 rfl).slice hn1
      obtain ⟨gq, cq, rfl⟩ := (hA6.get 4 rfl).slice hn1
      obtain ⟨gw, cw, rfl⟩ := (hA6.get 0 rfl).slice hn1
      have hjj : ((j : Int) != (j : Int)) = false := by simp
      go_wp2_with fail
      refine (sameC _ _ _ j (sml a) hn (hA6.get 2 rfl) (hA6.get 6 rfl)).mono ?_
      rintro e w9 ⟨rfl, hB3⟩
      have hA7 := hA6.below hB3
      have hS10 := hS9.keep hB3
      clear hA6 hB3 hS9
      obtain ⟨zp, hlp, hcp⟩ := (hA7.get 5 rfl).words hn1
      obtain ⟨zq, hlq, hcq⟩ := (hA7.get 4 rfl).words hn1
      obtain ⟨zw, hlw, hcw⟩ := (hA7.get 0 rfl).words hn1
      have hnp := hlp.nums
      have hnq := hlq.nums
      have hnw := hlw.nums
      have twb : ∀ i, i < j → Bd 1 (tw j i) := fun i _ => by unfold tw Bd; (repeat' split) <;> simp
      obtain ⟨s2, hs2⟩ := sums_words (fun i hi => ⟨hcp i hi, ft_bd hn (fun i _ => sml_bd a i) i⟩) (fun i hi => ⟨hcq i hi, ft_bd hn (fun i _ => sml_bd b i) i⟩) (by omega)
      obtain ⟨t2, ht2⟩ := products_words (fun i hi => ⟨hcw i hi, twb i hi⟩) (fun i hi => ⟨hcp i hi, ft_bd hn (fun i _ => sml_bd a i) i⟩) (by omega)
      clear hlp hlq hlw hcp hcq hcw twb
      obtain ⟨i0, hi, hz0, hz1, hz2⟩ := info_parts info32
      have hR0 := Rows2.start w9 w9.heap.size s2 t2
      go_wp2_with fail
      obtain ⟨B, hB⟩ : ∃ B, w9.heap.size = B := ⟨_, rfl⟩
      have hgp : gp < B := by rw [← hB]; exact hnp.1
      have hgq : gq < B := by rw [← hB]; exact hnq.1
      have hgw : gw < B := by rw [← hB]; exact hnw.1
      rw [hB] at hR0
      go_loopw [26, 12, 135] (fun s t i W => ∃ k : Nat, i = .int .i64 k ∧ k ≤ j ∧ Rows2 B k k s2 t2 s t W ∧ Below B w9 W) (fun _ _ i _ => j - (intOf i).toNat)
      case atStart => exact ⟨0, rfl, by omega, hR0, Below.refl _ _⟩
      case round =>
        obtain ⟨i, rfl, hij, hR, hBj⟩ := hrel
        clear hR0
        by_cases hlt : i < j
        · have hq := Q4.of hBj hgp hgq (q4 hnp hnq hlt)
          have hcall := (hs2 i hlt).2
          have hcall2 := (ht2 i hlt).2
          have HQ := Lib.hid (q4 hnp hnq hlt)
          have HV := Lib.hid (q4 hnw hnp hlt)
          have HC := Lib.hid (show cellsN s2 (i + 1) = cellsN s2 i ++ [.int .u32 (s2 i).1, .int .u32 (s2 i).2] from cellsN_succ _ _)
          have HD := Lib.hid (show cellsN t2 (i + 1) = cellsN t2 i ++ [.int .u32 (t2 i).1, .int .u32 (t2 i).2] from cellsN_succ _ _)
          have HB := Lib.hid hB
          have HA := Lib.hid hA7
          have HS := Lib.hid hS10
          have hBs : B ≤ wr.heap.size := by have := hBj.size; omega
          clear hnp hnq hnw hs2 ht2 hB hA7 hS10
          go_wp2_with fail
          have hRd := hR.below (Below.refl _ wr).drew
          have hBd := hBj.drew
          have hq0 : Q4 gp gq i (zp i) (zq i) wr.drew := hq
          clear hR hq
          go_region_held3 (fun W => W.cell? ⟨gp, i * 2, none⟩ = some (.int .u32 (zp i).1) ∧ W.cell? ⟨gp, i * 2 + 1, none⟩ = some (.int .u32 (zp i).2) ∧ W.cell? ⟨gq, i * 2, none⟩ = some (.int .u32 (zq i).1) ∧ W.cell? ⟨gq, i * 2 + 1, none⟩ = some (.int .u32 (zq i).2))
            (first | assumption | exact Q4.of (by assumption) hgp hgq HQ.out | go_keep)
            (first
              | (go_at_call 13; ((refine (hcall _).mono ?_); rintro e x3 ⟨rfl, hB3⟩; have hR3 := hRd.below hB3; have hBw3 := hBd.trans (hB3.mono hBs); have hq3 := Q4.of hBw3 hgp hgq HQ.out; have hBs3 : B ≤ x3.heap.size := Nat.le_trans hBs hB3.size))
              | (refine step_append_lies _ (by rfl) _ _ _ (by rfl) B 32 i0 _ 2 8 Try.underlying24 hi hz0 hz1 hz2 rfl (by omega) u26 i _ (by rfl) ((hR3.below ((Below.refl _ _).alloc (Nat.le_refl _) _)).1) ⟨x3.heap.size, 0, none⟩ 1 1 [.int .u32 (s2 i).1, .int .u32 (s2 i).2] (by rfl) (by rfl) (two_new _ _ _ _) (by simp [Value.oneCell'])
                  (by omega) (by unfold maxLen; omega) (by omega) (by simp; omega) (x3.heap.size + 1) (by simp) ?_; intro gg cc x4 hown4 hgrow4 hat4 hlt4; have hBw4 := own_grown (hBw3.alloc hBs3 (.cells #[.int .u32 (s2 i).1, .int .u32 (s2 i).2] 32)) (Nat.le_refl _) (by simp; omega) ((hR3.below ((Below.refl _ _).alloc (Nat.le_refl _) (.cells #[.int .u32 (s2 i).1, .int .u32 (s2 i).2] 32))).1) hgrow4; have hq4 := Q4.of hBw4 hgp hgq HQ.out))
          have hR4 := Rows2.first (hR3.below ((Below.refl _ _).alloc (Nat.le_refl _) (.cells #[.int .u32 (s2 i).1, .int .u32 (s2 i).2] 32))) hgrow4 hat4 (by simp) (by rw [HC.out]; exact hown4)
          have hBs4 : B ≤ x4.heap.size := by have h1 := hBw4.size; have h2 := HB.out; omega
          clear hRd hBd hq0 hR3 hBw3 hq3 hq4 hgrow4 hown4 hat4 hBs hBs3 hB3 hlt4 hcall
          go_wp2_with fail
          have hRd := hR4.below (Below.refl _ x4).drew
          have hBd := hBw4.drew
          have hBs : B ≤ x4.drew.heap.size := hBs4
          have hq0 : Q4 gw gp i (zw i) (zp i) x4.drew := Q4.of hBd hgw hgp HV.out
          clear hR4 hBw4
          go_region_held3 (fun W => W.cell? ⟨gw, i * 2, none⟩ = some (.int .u32 (zw i).1) ∧ W.cell? ⟨gw, i * 2 + 1, none⟩ = some (.int .u32 (zw i).2) ∧ W.cell? ⟨gp, i * 2, none⟩ = some (.int .u32 (zp i).1) ∧ W.cell? ⟨gp, i * 2 + 1, none⟩ = some (.int .u32 (zp i).2))
            (first | assumption | exact Q4.of (by assumption) hgw hgp HV.out | go_keep)
            (first
              | (go_at_call 15; ((refine (hcall2 _).mono ?_); rintro e y3 ⟨rfl, hB3⟩; have hR3 := hRd.below hB3; have hBw3 := hBd.trans (hB3.mono hBs); have hq3 := Q4.of hBw3 hgw hgp HV.out; have hBs3 : B ≤ y3.heap.size := Nat.le_trans hBs hB3.size))
              | (refine step_append_lies _ (by rfl) _ _ _ (by rfl) B 32 i0 _ 2 8 Try.underlying24 hi hz0 hz1 hz2 rfl (by omega) u12 i _ (by rfl) ((hR3.below ((Below.refl _ _).alloc (Nat.le_refl _) _)).2.1) ⟨y3.heap.size, 0, none⟩ 1 1 [.int .u32 (t2 i).1, .int .u32 (t2 i).2] (by rfl) (by rfl) (two_new _ _ _ _) (by simp [Value.oneCell'])
                  (by omega) (by unfold maxLen; omega) (by omega) (by simp; omega) (y3.heap.size + 1) (by simp) ?_; intro gg2 cc2 y4 hown4 hgrow4 hat4 hlt4; have hBw4 := own_grown (hBw3.alloc hBs3 (.cells #[.int .u32 (t2 i).1, .int .u32 (t2 i).2] 32)) (Nat.le_refl _) (by simp; omega) ((hR3.below ((Below.refl _ _).alloc (Nat.le_refl _) (.cells #[.int .u32 (t2 i).1, .int .u32 (t2 i).2] 32))).2.1) hgrow4; have hq4 := Q4.of hBw4 hgw hgp HV.out))
          have hR5 := Rows2.second (hR3.below ((Below.refl _ _).alloc (Nat.le_refl _) (.cells #[.int .u32 (t2 i).1, .int .u32 (t2 i).2] 32))) hgrow4 hat4 (by simp) (by rw [HD.out]; exact hown4)
          clear hRd hBd hq0 hR3 hBw3 hq3 hq4 hgrow4 hown4 hat4 hBs hBs3 hB3 hlt4 hcall2
          go_wp2
          go_roundw
          case rel => exact ⟨i + 1, by simp, by omega, hR5, hBw4⟩
          case measure => simp [intOf]; omega
        · obtain rfl : i = j := by omega
          have hBw : Below w9.heap.size w9 wr := by rw [hB]; exact hBj
          have hS11 := hS10.keep hBw
          have lb := (LW.of_own hR.1 hn1).ln hn1 (fun k hk => (hs2 k hk).1)
          have lt := (LW.of_own hR.2.1 hn1).ln hn1 (fun k hk => (ht2 k hk).1)
          have hA8 := ((hA7.below hBw).add lt).add lb
          clear hR hBj hnp hnq hnw hs2 ht2 hB hA7 hS10 hgp hgq hgw hi hz0 hz1 hz2 hBw lb lt
          generalize u26 = vb2 at *
          generalize u12 = vt2 at *
          go_wp2_with fail
          clear hij
          obtain ⟨wA, rfl⟩ : ∃ wA : World, wA = wr := ⟨_, rfl⟩
          obtain ⟨i0, hi, hz0, hz1, hz2⟩ := info_parts info22
          have hR0 := World.ownsRow_nil wA wA.heap.size 22 1
          obtain ⟨B, hB⟩ : ∃ B, wA.heap.size = B := ⟨_, rfl⟩
          rw [hB] at hR0
          have hPa : Pairs wA w.heap.size 4 a := hS11.2.1
          go_loopw [28, 164] (fun s q W => ∃ k : Nat, q = .int .i64 k ∧ k ≤ i ∧ W.ownsRow B 22 1 s k (wordsU (smp a) k) ∧ Below B wA W) (fun _ q _ => i - (intOf q).toNat)
          case atStart => exact ⟨0, rfl, by omega, hR0, Below.refl _ _⟩
          case round =>
            obtain ⟨q, rfl, hq, hR, hBj⟩ := hrel
            clear hR0
            by_cases hlt : q < i
            · have hPr := hPa.below (by rw [hB]; exact hBj)
              obtain ⟨⟨c0, -⟩, hb1, -⟩ := hPr.2 q (by omega)
              have s1 := fun w => small_any (a q).1 w hb1
              have HC := Lib.hid (show wordsU (smp a) (q + 1) = wordsU (smp a) q ++ [.int .u32 (floatOfInt .f32 ((a q).1.tmod 1001))] from wordsU_succ _ _)
              have HB := Lib.hid hB
              have hBs : B ≤ wr.heap.size := by have := hBj.size; omega
              have HA := Lib.hid hA8
              have HS := Lib.hid hS11
              clear hB hA8 hS11 hPa hPr
              generalize (a q).1 = x1 at *
              go_wp2_with fail
              refine (s1 _).mono ?_
              rintro e wx ⟨rfl, rfl⟩
              go_wp2_with (at_builtin; refine wpList_append_own _ rfl _ _ 54 rfl B 22 i0 (.int .u32 0) 1 4 Try.underlying54 hi hz0 hz1 hz2 rfl (by decide) _ _ _ rfl (hR.alloc _) ⟨wr.heap.size, 0, none⟩ 1 1 [.int .u32 (floatOfInt .f32 (x1.tmod 1001))] rfl rfl (one_new _ _ _) (by simp [Value.oneCell']) (by unfold maxLen; omega) (by omega) (by simp; omega) ?_; intro v' x2 hown2 hgrow hnil2)
              have hBw := own_grown (hBj.alloc hBs (.cells #[.int .u32 (floatOfInt .f32 (x1.tmod 1001))] 22)) (Nat.le_refl _) (by simp; omega) (hR.alloc (.cells #[.int .u32 (floatOfInt .f32 (x1.tmod 1001))] 22)) hgrow
              go_roundw
              case rel => exact ⟨q + 1, by simp, by omega, by rw [HC.out]; exact hown2, hBw⟩
              case measure => simp [intOf]; omega
            · obtain rfl : q = i := by omega
              have hBw : Below wA.heap.size wA wr := by rw [hB]; exact hBj
              have hS12 := hS11.keep hBw
              have hA9 := hA8.below hBw
              have hU := LU.of_own hR hn1
              clear hBw hBj hR hA8 hS11 hPa hB hi hz0 hz1 hz2 hq
              obtain ⟨gu, cu, hvu, hgu, hcu⟩ := hU
              generalize u28 = vsm at *
              subst hvu
              go_wp2_with fail
              obtain ⟨wB, rfl⟩ : ∃ wB : World, wB = wr := ⟨_, rfl⟩
              obtain ⟨i0, hi, hz0, hz1, hz2⟩ := info_parts info22
              obtain ⟨ts, hts⟩ : ∃ ts : Nat → Nat, ts = fun j => smp a ((j + q - 1) % q) := ⟨_, rfl⟩
              have hR0 := World.ownsRow_nil wB wB.heap.size 22 1
              obtain ⟨B, hB⟩ : ∃ B, wB.heap.size = B := ⟨_, rfl⟩
              rw [hB] at hR0 hgu
              go_loopw [29, 179] (fun s p W => ∃ k : Nat, p = .int .i64 k ∧ k ≤ q ∧ W.ownsRow B 22 1 s k (wordsU ts k) ∧ Below B wB W) (fun _ p _ => q - (intOf p).toNat)
              case atStart => exact ⟨0, rfl, by omega, hR0, Below.refl _ _⟩
              case round =>
                obtain ⟨p, rfl, hp, hR, hBj⟩ := hrel
                clear hR0
                by_cases hlt : p < q
                · have HC := Lib.hid (show wordsU ts (p + 1) = wordsU ts p ++ [.int .u32 (ts p)] from wordsU_succ _ _)
                  have HB := Lib.hid hB
                  have hBs : B ≤ wr.heap.size := by have := hBj.size; omega
                  obtain ⟨mm, hmm⟩ : ∃ mm, (p + q - 1) % q = mm := ⟨_, rfl⟩
                  have hmn : mm < q := by rw [← hmm]; exact Nat.mod_lt _ (by omega)
                  have hidx : ((p : Int) + (q : Int) - 1).tmod (q : Int) = (mm : Int) := by
                    rw [show (p : Int) + (q : Int) - 1 = ((p + q - 1 : Nat) : Int) by omega, ← hmm]
                    exact (Int.ofNat_tmod _ _).symm
                  have hidx' : ((p : Int) + (q : Int) - 1) % (q : Int) = (mm : Int) := by
                    rw [show (p : Int) + (q : Int) - 1 = ((p + q - 1 : Nat) : Int) by omega, ← hmm]
                    rfl
                  have d1 : wr.cell? ⟨gu, mm, none⟩ = some (.int .u32 (smp a mm)) := (hBj.cell (p := ⟨gu, mm, none⟩) hgu).trans (hcu mm hmn)
                  have hne0 : ((q : Int) == 0) = false := by rw [beq_eq_false_iff_ne]; omega
                  have HT := Lib.hid (show ts p = smp a mm by rw [hts, ← hmm])
                  have lg : gu < wr.heap.size := by omega
                  have HA := Lib.hid hA9
                  have HS := Lib.hid hS12
                  clear hmm hB hA9 hS12 hcu hts
                  go_wp2_with (at_builtin; refine wpList_append_own _ rfl _ _ 54 rfl B 22 i0 (.int .u32 0) 1 4 Try.underlying54 hi hz0 hz1 hz2 rfl (by decide) _ _ _ rfl (hR.alloc _) ⟨wr.heap.size, 0, none⟩ 1 1 [.int .u32 (smp a mm)] rfl rfl (one_new _ _ _) (by simp [Value.oneCell']) (by unfold maxLen; omega) (by omega) (by simp; omega) ?_; intro v' x2 hown2 hgrow hnil2)
                  have hBw := own_grown (hBj.alloc hBs (.cells #[.int .u32 (smp a mm)] 22)) (Nat.le_refl _) (by simp; omega) (hR.alloc (.cells #[.int .u32 (smp a mm)] 22)) hgrow
                  clear hidx hidx'
                  go_roundw
                  case rel => exact ⟨p + 1, by simp, by omega, by rw [HC.out, HT.out]; exact hown2, hBw⟩
                  case measure => simp [intOf]; omega
                · obtain rfl : p = q := by omega
                  have hBw : Below wB.heap.size wB wr := by rw [hB]; exact hBj
                  have hS13 := hS12.keep hBw
                  have hA10 := hA9.below hBw
                  obtain ⟨gt, ct, hvt, hgt, hct⟩ := LU.of_own hR hn1
                  have hgu' : gu < wr.heap.size := by have := hBw.size; omega
                  have hcu' : ∀ j, j < p → wr.cell? ⟨gu, j, none⟩ = some (.int .u32 (smp a j)) := fun j hj => (hBj.cell (p := ⟨gu, j, none⟩) hgu).trans (hcu j hj)
                  rw [hts] at hct
                  clear hBw hBj hR hA9 hS12 hB hi hz0 hz1 hz2 hp hts hcu hgu
                  generalize u29 = vlt at *
                  subst hvt
                  go_wp2_with fail
                  refine (spectrumC _ gu p cu (smp a) (fun j => (a j).1.tmod 1001) hn hgu' hcu' (fun j _ => smp_val a j) (fun j _ => smp_bd a j)).mono ?_
                  rintro e x1 ⟨g1, rfl, hg1, hc1, hB3⟩
                  have hA11 := hA10.below hB3
                  have hS14 := hS13.keep hB3
                  have hgt1 := Nat.lt_of_lt_of_le hgt hB3.size
                  have hct1 : ∀ j, j < p → x1.cell? ⟨gt, j, none⟩ = some (.int .u32 (smp a ((j + p - 1) % p))) := fun j hj => (hB3.cell (p := ⟨gt, j, none⟩) hgt).trans (hct j hj)
                  clear hA10 hS13 hB3 hgt hct hgu' hcu'
                  go_wp2_with fail
                  refine (spectrumC _ gt p ct (fun j => smp a ((j + p - 1) % p)) (fun j => (a ((j + p - 1) % p)).1.tmod 1001) hn hgt1 hct1 (fun j _ => smp_val a _) (fun j _ => smp_bd a _)).mono ?_
                  rintro e x2 ⟨g2, rfl, hg2, hc2, hB3⟩
                  have hA12 := hA11.below hB3
                  have hS15 := hS14.keep hB3
                  have hg1' := Nat.lt_of_lt_of_le hg1 hB3.size
                  have hc1' : ∀ j, j < p / 2 + 1 → x2.cell? ⟨g1, j, none⟩ = some (.int .u32 (spw (fun j => (a j).1.tmod 1001) p j)) := fun j hj => (hB3.cell (p := ⟨g1, j, none⟩) hg1).trans (hc1 j hj)
                  have hc2' : ∀ j, j < p / 2 + 1 → x2.cell? ⟨g2, j, none⟩ = some (.int .u32 (spw (fun j => (a j).1.tmod 1001) p j)) := fun j hj => by
                    rw [hc2 j hj]
                    unfold spw
                    rw [pw_turned (fun j => (a j).1.tmod 1001) p j hn (by omega)]
                  clear hA11 hS14 hB3 hg1 hc1 hgt1 hct1 hc2
                  obtain ⟨hh, hhh⟩ : ∃ hh, p / 2 + 1 = hh := ⟨_, rfl⟩
                  have hh5 : hh ≤ 5 := by omega
                  rw [hhh] at hc1' hc2'
                  rw [hhh]
                  clear hhh
                  have r1 := (hA12.get 5 rfl).to (fun k _ => (ft_add (sml a) (sml b) p k hn).symm)
                  have r2 := (hA12.get 3 rfl).to (fun k hk => (ft_turned (sml a) p k hn hk).symm)
                  have t1 := hA12.get 0 rfl
                  have t2 := hA12.get 1 rfl
                  clear hA12
                  go_wp2_with fail
                  refine (sameC _ _ _ p _ hn r1 t1).mono ?_
                  rintro e x3 ⟨rfl, hB3⟩
                  have hS16 := hS15.keep hB3
                  have r3 := r2.below hB3
                  have t3 := t2.below hB3
                  have g1x := Nat.lt_of_lt_of_le hg1' hB3.size
                  have g2x := Nat.lt_of_lt_of_le hg2 hB3.size
                  have c1x := fun j hj => (hB3.cell (p := ⟨g1, j, none⟩) hg1').trans (hc1' j hj)
                  have c2x := fun j hj => (hB3.cell (p := ⟨g2, j, none⟩) hg2).trans (hc2' j hj)
                  clear r1 r2 t1 t2 hS15 hB3 hg1' hg2 hc1' hc2'
                  go_wp2_with fail
                  refine (sameC _ _ _ p _ hn r3 t3).mono ?_
                  rintro e x4 ⟨rfl, hB3⟩
                  have hS17 := hS16.keep hB3
                  have g1y := Nat.lt_of_lt_of_le g1x hB3.size
                  have g2y := Nat.lt_of_lt_of_le g2x hB3.size
                  have c1y := fun j hj => (hB3.cell (p := ⟨g1, j, none⟩) g1x).trans (c1x j hj)
                  have c2y := fun j hj => (hB3.cell (p := ⟨g2, j, none⟩) g2x).trans (c2x j hj)
                  clear r3 t3 hS16 hB3 g1x g2x c1x c2x
                  go_wp2_with fail
                  refine (equalU _ g1 g2 hh hh hh _ hh5 g1y g2y c1y c2y).mono ?_
                  rintro e x5 ⟨rfl, hB3⟩
                  have hS18 := hS17.keep hB3
                  clear hS17 hB3 g1y g2y c1y c2y
                  go_wp2_with fail
                  refine (awake_any _).mono ?_
                  rintro e x6 ⟨rfl, hB3⟩
                  have hS19 := hS18.keep hB3
                  clear hS18 hB3
                  go_wp2
                  go_ret
                  exact ⟨rfl, hS19.1⟩
end Go.Proofs.Ytmhfdjognikilaa
