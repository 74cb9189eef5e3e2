/- Layer 16 (numeric), transforms: Transform, there and back, of a list of one, two or four numbers of whole parts. -/
import Derived.Test.YtmhfdjognikilaaBackC
namespace Go.Proofs.Ytmhfdjognikilaa
open Go.RowKit Go.Shelf

@[go_sem] theorem run_store_float (P : Program) (w : World) (a : Addr) (m : Mode) (k : FloatKind) (x : Nat) : (store a (.float k x) m).run P w = stored P w a (.float k x) m := rfl

theorem But.cell' {w w' : World} {r b : Nat} {v : Value} (hB : But r w w') (hc : w.cell? ⟨b, 0, none⟩ = some v) (hr : ∃ es c, w.heap[r]? = some (.map es c)) : w'.cell? ⟨b, 0, none⟩ = some v := by
  obtain ⟨es, c, hr⟩ := hr
  refine hB.cell hc ?_
  intro e
  cases e
  simp [World.cell?, hr] at hc

/-- The quotients by the number of points. -/
theorem over_val {n j : Nat} {dw : Nat} {zs : Nat → Nat × Nat} {c d : Nat → Cx} (hj : n = 2 ^ j) (hj2 : j ≤ 2) (hd : Val dw (2 ^ j)) (hz : ∀ k, k < n → CV (zs k) (c k)) (hc : ∀ k, k < n → conj (c k) = ((n : Int) * (d k).1, (n : Int) * (d k).2)) :
    ∃ ys : Nat → Nat × Nat, ∀ k, k < n → (Ieee.single.div (conjW (zs k)).1 dw = some (ys k).1 ∧ Ieee.single.div (conjW (zs k)).2 dw = some (ys k).2) ∧ CV (ys k) (d k) := by
  refine Classical.axiomOfChoice (r := fun k (y : Nat × Nat) => k < n → (Ieee.single.div (conjW (zs k)).1 dw = some y.1 ∧ Ieee.single.div (conjW (zs k)).2 dw = some y.2) ∧ CV y (d k)) ?_
  intro k
  by_cases hk : k < n
  · have h := (hz k hk).conj
    rw [hc k hk] at h
    have e : (n : Int) = 2 ^ j := by rw [hj]; simp
    have h1 : Val (conjW (zs k)).1 ((d k).1 * 2 ^ j) := by have := h.1; simp only at this; rwa [e, Int.mul_comm] at this
    have h2 : Val (conjW (zs k)).2 ((d k).2 * 2 ^ j) := by have := h.2; simp only at this; rwa [e, Int.mul_comm] at this
    obtain ⟨y1, e1, v1⟩ := h1.div hd (by omega)
    obtain ⟨y2, e2, v2⟩ := h2.div hd (by omega)
    exact ⟨(y1, y2), fun _ => ⟨⟨e1, e2⟩, v1, v2⟩⟩
  · exact ⟨(0, 0), fun h => absurd h hk⟩

set_option maxRecDepth 100000 in
set_option maxHeartbeats 2000000 in
theorem inverseC (w : World) (r m g cap n : Nat) (zs : Nat → Nat × Nat) (c d : Nat → Cx) (hn : n = 1 ∨ n = 2 ∨ n = 4) (hr : w.heap[r]? = some (.map #[] m)) (hg : g < w.heap.size) (hc : ∀ j, j < n → w.cell? ⟨g, j, none⟩ = some (cV (zs j)))
    (hz : ∀ j, j < n → CV (zs j) (c j) ∧ Bd 100000 (c j)) (hd : ∀ k, k < n → conj (ft (fun j => conj (c j)) n k) = ((n : Int) * (d k).1, (n : Int) * (d k).2)) :
    Calls Try.prog 69 #[.agg #[.map (some r)], .slice (some ⟨g, 0, none⟩) n cap] w fun e W' => ∃ v ys, e = .returned v ∧ Row W' v n ys ∧ (∀ k, k < n → CV (ys k) (d k)) ∧ But r w W' := by
  obtain ⟨j, hj, hj2⟩ : ∃ j, n = 2 ^ j ∧ j ≤ 2 := by
    rcases hn with rfl | rfl | rfl
    · exact ⟨0, rfl, by omega⟩
    · exact ⟨1, rfl, by omega⟩
    · exact ⟨2, rfl, by omega⟩
  have hdw : Val (floatOfInt .f32 (n : Int)) (2 ^ j) := by
    have := val_int (n : Int) (by omega)
    have e : (n : Int) = 2 ^ j := by rw [hj]; simp
    generalize floatOfInt .f32 (n : Int) = x at this ⊢
    rwa [e] at this
  have hnn : 1 ≤ n ∧ n ≤ 5 := by omega
  have hrl : r < w.heap.size := (Array.getElem?_eq_some_iff.1 hr).1
  have hB0 : Below w.heap.size w (((w.alloc (.cells #[.map (some r)] 102)).alloc (.cells #[.float .f32 (floatOfInt .f32 (n : Int))] 29)).drew) := (((Below.refl _ _).alloc (Nat.le_refl _) _).alloc (by simp) _).drew
  have HJ := Lib.hid hj
  clear hj
  go_enter Try.func69, Try.ntmps69
  go_wp2_with fail
  generalize hdq : floatOfInt .f32 (n : Int) = dw at *
  clear hdq
  obtain ⟨wa, hwa⟩ : ∃ wa, (w.alloc (.cells #[.map (some r)] 102)).alloc (.cells #[.float .f32 dw] 29) = wa := ⟨_, rfl⟩
  have k0 : wa.cell? ⟨w.heap.size, 0, none⟩ = some (.map (some r)) := by rw [← hwa]; simp [go_sem]
  have l0 : wa.cell? ⟨w.heap.size + 1, 0, none⟩ = some (.float .f32 dw) := by rw [← hwa]; simp [go_sem]
  have hsz : w.heap.size + 2 = wa.heap.size := by rw [← hwa]; simp
  rw [hwa] at hB0 ⊢
  clear hwa
  have hga : g < wa.drew.heap.size := by show g < wa.heap.size; omega
  have hca : ∀ j, j < n → wa.drew.cell? ⟨g, j, none⟩ = some (cV (zs j)) := fun j hj => (hB0.cell (p := ⟨g, j, none⟩) hg).trans (hc j hj)
  have hma : wa.drew.heap[r]? = some (.map #[] m) := (hB0.block r hrl).trans hr
  have hv : ∀ j, j < n → (zs j).2 < 2 ^ 32 := fun j hj => (hz j hj).1.2.lt
  have hz1 : ∀ j, j < n → CV (conjW (zs j)) (conj (c j)) ∧ Bd 100000 (conj (c j)) := fun j hj => ⟨(hz j hj).1.conj, (hz j hj).2.conj⟩
  have k0' : wa.drew.cell? ⟨w.heap.size, 0, none⟩ = some (.map (some r)) ∧ wa.drew.cell? ⟨w.heap.size + 1, 0, none⟩ = some (.float .f32 dw) := ⟨k0, l0⟩
  have hB0' := Lib.hid hB0
  clear hB0 hc hr hz k0 l0 hg
  go_region_held3 (fun W => W.cell? ⟨w.heap.size, 0, none⟩ = some (.map (some r)) ∧ W.cell? ⟨w.heap.size + 1, 0, none⟩ = some (.float .f32 dw))
    (first | assumption)
    (first
      | (go_at_call 84; ((with_reducible refine (conjP _ g n cap zs hnn hga hca hv).mono ?_); rintro e w1 ⟨v1, rfl, ⟨g1, c1, rfl, hg1, hcap1, hc1⟩, hB1⟩; have hm1 := (hB1.block r (by show r < wa.heap.size; omega)).trans hma; have k1 : w1.cell? ⟨w.heap.size, 0, none⟩ = some (.map (some r)) ∧ w1.cell? ⟨w.heap.size + 1, 0, none⟩ = some (.float .f32 dw) := ⟨(hB1.cell (p := ⟨w.heap.size, 0, none⟩) (by show w.heap.size < wa.heap.size; omega)).trans k0'.1, (hB1.cell (p := ⟨w.heap.size + 1, 0, none⟩) (by show w.heap.size + 1 < wa.heap.size; omega)).trans k0'.2⟩))
      | (go_at_call 84; ((refine (overP _ g2 n c2 (w.heap.size + 1) dw zs2 ys hnn hg2 hb2 hc2 hv2 k2.2 hy1).mono ?_); rintro e w3 ⟨v3, rfl, hrow3, hB3⟩; have k3 : w3.cell? ⟨w.heap.size, 0, none⟩ = some (.map (some r)) ∧ w3.cell? ⟨w.heap.size + 1, 0, none⟩ = some (.float .f32 dw) := ⟨(hB3.cell (p := ⟨w.heap.size, 0, none⟩) (by show w.heap.size < w2.heap.size; omega)).trans k2.1, (hB3.cell (p := ⟨w.heap.size + 1, 0, none⟩) hb2).trans k2.2⟩))
      | (go_at_call 68; ((refine (ofC _ r m g1 c1 n _ (fun j => conj (c j)) hn hcap1 hm1 hg1 hc1 hz1).mono ?_); rintro e w2 ⟨v2, zs2, rfl, ⟨g2, c2, rfl, hg2, hcap2, hc2⟩, hval2, hbut2⟩; have k2 : w2.cell? ⟨w.heap.size, 0, none⟩ = some (.map (some r)) ∧ w2.cell? ⟨w.heap.size + 1, 0, none⟩ = some (.float .f32 dw) := ⟨But.cell' hbut2 k1.1 ⟨_, _, hm1⟩, But.cell' hbut2 k1.2 ⟨_, _, hm1⟩⟩; obtain ⟨ys, hys⟩ := over_val HJ.out hj2 hdw hval2 hd; have hv2 : ∀ j, j < n → (zs2 j).2 < 2 ^ 32 := fun j hj => (hval2 j hj).2.lt; have hy1 := fun k hk => (hys k hk).1; have hb2 : w.heap.size + 1 < w2.heap.size := by (have q1 := hbut2.size; have q2 : wa.heap.size ≤ w1.heap.size := hB1.size; omega))))
  all_goals go_wp2
  all_goals
    go_ret
    exact ⟨v3, ys, rfl, hrow3, fun k hk => (hys k hk).2, (((But.of_below hB0'.out).trans (But.of_below hB1)).trans hbut2).trans (But.of_below hB3)⟩

theorem length_n (n : Nat) (hn : n = 1 ∨ n = 2 ∨ n = 4) (w : World) : Is 64 #[.int .i64 n] w (.bool true) := by
  rcases hn with rfl | rfl | rfl
  · go_enter Try.func64, Try.ntmps64
    go_wp2
    go_ret
    exact ⟨rfl, rfl⟩
  · go_enter Try.func64, Try.ntmps64
    go_wp2
    go_ret
    exact ⟨rfl, rfl⟩
  · exact length_4 w

set_option maxRecDepth 100000 in
set_option maxHeartbeats 2000000 in
/-- Transform of a list. -/
theorem transformC (w : World) (v : Value) (n : Nat) (c : Nat → Cx) (hn : n = 1 ∨ n = 2 ∨ n = 4) (hl : LN w v n c) (hb : ∀ j, j < n → Bd 100000 (c j)) :
    Calls Try.prog 34 #[v, .bool false] w fun e W' => ∃ v', e = .returned (.tuple #[v', .int .i64 0]) ∧ LN W' v' n (ft c n) ∧ Below w.heap.size w W' := by
  obtain ⟨zs, hl, hz⟩ := hl
  rcases hl with ⟨h0, -⟩ | ⟨hn1, g, cap, rfl, hcap, hN⟩
  · omega
  have hnum : ∀ j, j < n → Num (zs j).1 ∧ Num (zs j).2 := fun j hj => (hz j hj).num
  have hnn : 1 ≤ n ∧ n ≤ 5 := by omega
  go_enter Try.func34, Try.ntmps34
  go_wp2_with (first
    | (go_at_call 64; refine (length_n _ hn _).mono ?_; rintro e w' ⟨rfl, rfl⟩)
    | (go_at_call 67; refine (new_any _).mono ?_; rintro e w1 ⟨r, rfl, hm, hr, hB1⟩))
  have hBa : Below w1.heap.size w1 (w1.alloc (.cells #[.map (some r)] 102)) := (Below.refl _ _).alloc (Nat.le_refl _) _
  refine (valuesP _ g n cap zs hnn (Nums.below (hB1.trans (hBa.mono hB1.size)) hN) hnum).mono ?_
  rintro e w2 ⟨v, rfl, hrow, hB2⟩
  obtain ⟨gv, cv, rfl, hgv⟩ := hrow
  have hr1 : r < w1.heap.size := (Array.getElem?_eq_some_iff.1 hm).1
  have hm2 : w2.heap[r]? = some (.map #[] 0) := (hB2.block r (by simp; omega)).trans ((hBa.block r hr1).trans hm)
  have hW2 : Below w.heap.size w w2 := (hB1.trans (hBa.mono hB1.size)).trans (hB2.mono (by have := hB1.size; simp; omega))
  clear hB2 hBa hm hr1 hB1 hN
  go_wp2_with fail
  refine (ofC _ r 0 gv cv n zs c hn hgv.2.1 hm2 hgv.1 hgv.2.2 (fun j hj => ⟨hz j hj, hb j hj⟩)).mono ?_
  rintro e w3 ⟨v, ys, rfl, hrow, hval, hb3⟩
  obtain ⟨gw, cw, rfl, hgw⟩ := hrow
  have hy : ∀ j, j < n → Num (ys j).1 ∧ Num (ys j).2 := fun j hj => (hval j hj).num
  go_wp2_with fail
  refine (numbersP _ gw n cw ys hnn hgw.1 hgw.2.2 hy).mono ?_
  rintro e w4 ⟨gn, rfl, hn4, hB4⟩
  go_wp2
  go_ret2
  exact ⟨_, rfl, ⟨ys, .inr ⟨hn1, gn, n, rfl, Nat.le_refl _, hn4⟩, hval⟩, (But.above hr hW2 hb3).trans (hB4.mono (by have := hW2.size; have := hb3.size; omega))⟩

set_option maxRecDepth 100000 in
set_option maxHeartbeats 2000000 in
/-- The inverse Transform of a list. -/
theorem backC (w : World) (v : Value) (n : Nat) (c d : Nat → Cx) (hn : n = 1 ∨ n = 2 ∨ n = 4) (hl : LN w v n c) (hb : ∀ j, j < n → Bd 100000 (c j)) (hd : ∀ k, k < n → conj (ft (fun j => conj (c j)) n k) = ((n : Int) * (d k).1, (n : Int) * (d k).2)) :
    Calls Try.prog 34 #[v, .bool true] w fun e W' => ∃ v', e = .returned (.tuple #[v', .int .i64 0]) ∧ LN W' v' n d ∧ Below w.heap.size w W' := by
  obtain ⟨zs, hl, hz⟩ := hl
  rcases hl with ⟨h0, -⟩ | ⟨hn1, g, cap, rfl, hcap, hN⟩
  · omega
  have hnum : ∀ j, j < n → Num (zs j).1 ∧ Num (zs j).2 := fun j hj => (hz j hj).num
  have hnn : 1 ≤ n ∧ n ≤ 5 := by omega
  go_enter Try.func34, Try.ntmps34
  go_wp2_with (first
    | (go_at_call 64; refine (length_n _ hn _).mono ?_; rintro e w' ⟨rfl, rfl⟩)
    | (go_at_call 67; refine (new_any _).mono ?_; rintro e w1 ⟨r, rfl, hm, hr, hB1⟩))
  have hBa : Below w1.heap.size w1 (w1.alloc (.cells #[.map (some r)] 102)) := (Below.refl _ _).alloc (Nat.le_refl _) _
  refine (valuesP _ g n cap zs hnn (Nums.below (hB1.trans (hBa.mono hB1.size)) hN) hnum).mono ?_
  rintro e w2 ⟨v, rfl, hrow, hB2⟩
  obtain ⟨gv, cv, rfl, hgv⟩ := hrow
  have hr1 : r < w1.heap.size := (Array.getElem?_eq_some_iff.1 hm).1
  have hm2 : w2.heap[r]? = some (.map #[] 0) := (hB2.block r (by simp; omega)).trans ((hBa.block r hr1).trans hm)
  have hW2 : Below w.heap.size w w2 := (hB1.trans (hBa.mono hB1.size)).trans (hB2.mono (by have := hB1.size; simp; omega))
  clear hB2 hBa hm hr1 hB1 hN
  go_wp2_with fail
  refine (inverseC _ r 0 gv cv n zs c d hn hm2 hgv.1 hgv.2.2 (fun j hj => ⟨hz j hj, hb j hj⟩) hd).mono ?_
  rintro e w3 ⟨v, ys, rfl, hrow, hval, hb3⟩
  obtain ⟨gw, cw, rfl, hgw⟩ := hrow
  have hy : ∀ j, j < n → Num (ys j).1 ∧ Num (ys j).2 := fun j hj => (hval j hj).num
  go_wp2_with fail
  refine (numbersP _ gw n cw ys hnn hgw.1 hgw.2.2 hy).mono ?_
  rintro e w4 ⟨gn, rfl, hn4, hB4⟩
  go_wp2
  go_ret2
  exact ⟨_, rfl, ⟨ys, .inr ⟨hn1, gn, n, rfl, Nat.le_refl _, hn4⟩, hval⟩, (But.above hr hW2 hb3).trans (hB4.mono (by have := hW2.size; have := hb3.size; omega))⟩
end Go.Proofs.Ytmhfdjognikilaa
