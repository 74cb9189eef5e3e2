/- Layer 7 (cap): Members: for every number the list of the capabilities of the set, in a new block (nil where there is none). -/
import Derived.Test.YtpggdojclhdkjaaDoorCapB
namespace Go.Proofs.YtpggdojclhdkjaaDoor
open Go.RowKit

theorem info_int : (Tryd.prog.info? 3).map (fun i => (i.zero, i.size, i.bytes)) = some (some (.int .i64 0), 1, 8) := by kernel_rfl

/-- The first k capabilities that a set of bits has. -/
def memK (s : Int) (k : Nat) : List Int := (caps.take k).filter fun m => hasB s m
def mems (c : Int) : List Int := memK (memL.getD c.toNat 0) 6
theorem memK_le (s : Int) (k : Nat) : (memK s k).length ≤ 6 := Nat.le_trans (List.length_filter_le _ _) (by have := List.length_take_le k caps; have h : caps.length = 6 := rfl; rw [List.length_take]; omega)
theorem caps_take (k : Nat) (hk : k < 6) : caps.take (k + 1) = caps.take k ++ [(k : Int) + 1] := by
  have : k = 0 ∨ k = 1 ∨ k = 2 ∨ k = 3 ∨ k = 4 ∨ k = 5 := by omega
  rcases this with rfl | rfl | rfl | rfl | rfl | rfl <;> rfl
theorem memK_hit (s : Int) (k : Nat) (hk : k < 6) (h : hasB s ((k : Int) + 1) = true) : memK s (k + 1) = memK s k ++ [(k : Int) + 1] := by
  simp [memK, caps_take k hk, List.filter_append, h]
theorem memK_miss (s : Int) (k : Nat) (hk : k < 6) (h : hasB s ((k : Int) + 1) = false) : memK s (k + 1) = memK s k := by
  simp [memK, caps_take k hk, List.filter_append, h]

theorem rel_hit {B k : Nat} {s : Int} {w wr w1 : World} {u v' : Value} {o : Obj} (hk : k < 6) (hg : hasB s ((k : Int) + 1) = true) (hB : B ≤ wr.heap.size)
    (hown : wr.ownsRow B 3 1 u (memK s k).length ((memK s k).map (Value.int .i64))) (hnx : Below B w wr)
    (hown' : w1.ownsRow B 3 1 v' ((memK s k).length + 1) ((memK s k).map (Value.int .i64) ++ [.int .i64 ((k : Int) + 1)])) (hgrow : (wr.alloc o).grownBy w1 u.ownBlock) :
    w1.ownsRow B 3 1 v' (memK s (k + 1)).length ((memK s (k + 1)).map (Value.int .i64)) ∧ Below B w w1 := by
  refine ⟨by rw [memK_hit s k hk hg]; simpa using hown', (hnx.alloc hB o).grown hgrow (by simp; omega) (fun j hj => (hown.lt j hj).1)⟩

theorem Tab.below {g : Nat} {k : IntKind} {l : List Int} {w w' : World} {B : Nat} (h : Tab g k l w) (hb : Below B w w') (hg : g < B) : Tab g k l w' := fun i hi => (hb.cell (p := ⟨g, i, none⟩) hg).trans (h i hi)
theorem block_lt {w : World} {p : Addr} {v : Value} (h : w.cell? p = some v) : p.block < w.heap.size := by
  by_cases hp : p.block < w.heap.size
  · exact hp
  · rw [World.cell?] at h
    rw [Array.getElem?_eq_none (by omega)] at h
    simp at h
theorem Tab.lt {g : Nat} {k : IntKind} {l : List Int} {w : World} (h : Tab g k l w) (hl : 0 < l.length) : g < w.heap.size := block_lt (h 0 hl)

theorem members_out (c : Int) (w : World) (h : c < 0 ∨ 12 ≤ c) : Calls Tryd.prog 16 #[.int .i64 c] w fun e w' => e = .returned (.slice none 0 0) ∧ w = w' := by
  by_cases h1 : c < 0
  · go_enter Tryd.func16, Tryd.ntmps16
    go_wp2
    go_ret
    exact ⟨rfl, rfl⟩
  · have h2 : 12 ≤ c := by omega
    clear h
    go_enter Tryd.func16, Tryd.ntmps16
    go_wp2
    go_ret
    exact ⟨rfl, rfl⟩

set_option maxHeartbeats 1600000 in
theorem members_in (c : Int) (w : World) (h0 : 0 ≤ c) (h1 : c < 12) (hM : TMem w) : Calls Tryd.prog 16 #[.int .i64 c] w fun e w' =>
    ∃ v, e = .returned v ∧ w'.ownsRow w.heap.size 3 1 v (mems c).length ((mems c).map (Value.int .i64)) ∧ Below w.heap.size w w' := by
  obtain ⟨i0, hi, hz0, hz1, hz2⟩ := info_parts info_int
  have hcell := hM c.toNat (by simp [memL]; omega)
  have hg := hM.lt (by decide)
  have hb := tbl_bd (l := memL) (by kernel_rfl) c.toNat
  unfold mems
  generalize memL.getD c.toNat 0 = s at *
  clear hM
  go_enter Tryd.func16, Tryd.ntmps16
  go_wp2_with fail
  go_loopw [3, 4] (fun v i wr => ∃ k : Nat, k ≤ 6 ∧ i = .int .i64 (k + 1) ∧ wr.ownsRow w.heap.size 3 1 v (memK s k).length ((memK s k).map (Value.int .i64)) ∧ Below w.heap.size w wr) (fun _ i _ => 7 - (intOf i).toNat)
  case atStart => exact ⟨0, by omega, rfl, World.ownsRow_nil _ _ _ _, Below.refl _ _⟩
  case round =>
    obtain ⟨k, hk, rfl, hown, hnx⟩ := hrel
    have hcr : wr.cell? ⟨1, c.toNat, none⟩ = some (.int .u64 s) := (hnx.cell (p := ⟨1, c.toNat, none⟩) hg).trans hcell
    have hsz := hnx.size
    have hle := memK_le s k
    clear hcell
    by_cases hlt : k < 6
    · cases hh : hasB s ((k : Int) + 1)
      · have R : wr.ownsRow w.heap.size 3 1 u3 (memK s (k + 1)).length ((memK s (k + 1)).map (Value.int .i64)) := by rw [memK_miss s k hlt hh]; exact hown
        go_wp2_with (go_at_call 51; refine (has_any _ _ _ hb).mono ?_; rintro e w' ⟨rfl, rfl⟩)
        go_roundw
        case rel => exact ⟨k + 1, by omega, by go_num, R, hnx⟩
        case measure => simp [intOf]; omega
      · go_wp2_with (first
          | (go_at_call 51; refine (has_any _ _ _ hb).mono ?_; rintro e w' ⟨rfl, rfl⟩)
          | (at_builtin; refine wpList_append_own _ rfl _ _ 28 rfl w.heap.size 3 i0 (.int .i64 0) 1 8 Tryd.underlying28 hi hz0 hz1 hz2 rfl (by decide) _ _ _ rfl (hown.alloc _) ⟨wr.heap.size, 0, none⟩ 1 1 [.int .i64 ((k : Int) + 1)] rfl rfl ?c1 ?c2 ?c3 ?c4 ?c5 ?_))
        case c1 =>
          intro j u hj
          match j, hj with
          | 0, hj => simp at hj; subst hj; simp [Addr.add]
        case c2 => intro u hu; simp at hu; subst hu; rfl
        case c3 => unfold maxLen; omega
        case c4 => omega
        case c5 => simp; omega
        intro v' w1 hown' hgrow _
        have R := rel_hit hlt hh (by omega) hown hnx hown' hgrow
        clear hown' hgrow hown hcr
        go_wp2
        go_roundw
        case rel => exact ⟨k + 1, by omega, by go_num, R.1, R.2⟩
        case measure => simp [intOf]; omega
    · have hk6 : k = 6 := by omega
      subst hk6
      go_wp2
      go_ret
      exact ⟨_, rfl, hown, hnx⟩
end Go.Proofs.YtpggdojclhdkjaaDoor
