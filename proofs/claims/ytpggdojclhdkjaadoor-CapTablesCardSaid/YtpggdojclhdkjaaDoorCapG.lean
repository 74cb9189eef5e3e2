/- Layer 7 (cap): Name and Parse, of the program and of the reference. -/
import Derived.Test.YtpggdojclhdkjaaDoorCapF
namespace Go.Proofs.YtpggdojclhdkjaaDoor
open Go.RowKit

/-- The names, by their bytes. -/
def nameL : List (List UInt8) := [[], [105, 115, 111], [116, 114, 110], [114, 101, 102], [118, 97, 108], [98, 111, 120], [116, 97, 103], [35, 114, 101, 97, 100], [35, 115, 101, 110, 100], [35, 115, 104, 97, 114, 101], [35, 97, 108, 105, 97, 115], [35, 97, 110, 121]]
def nameS (i : Nat) : ByteArray := ⟨(nameL.getD i []).toArray⟩
def namesV : Array Value := #[.string (nameS 0), .string (nameS 1), .string (nameS 2), .string (nameS 3), .string (nameS 4), .string (nameS 5), .string (nameS 6), .string (nameS 7), .string (nameS 8), .string (nameS 9), .string (nameS 10), .string (nameS 11)]
/-- The table of names lies in its variable. -/
def TName (w : World) : Prop := ∃ t fr, w.heap[0]? = some (.cells namesV t fr)
theorem TName.drew {w : World} {n : Nat} (h : TName w) : TName (w.drewN n) := h
theorem TName.below {w w' : World} {B : Nat} (h : TName w) (hb : Below B w w') (hg : 0 < B) : TName w' := by
  obtain ⟨t, fr, h⟩ := h
  exact ⟨t, fr, (hb.block _ hg).trans h⟩
theorem TName.cell {w : World} (h : TName w) (i : Nat) (hi : i < 12) : w.cell? ⟨0, i, none⟩ = some (.string (nameS i)) := by
  obtain ⟨t, fr, h⟩ := h
  have : i = 0 ∨ i = 1 ∨ i = 2 ∨ i = 3 ∨ i = 4 ∨ i = 5 ∨ i = 6 ∨ i = 7 ∨ i = 8 ∨ i = 9 ∨ i = 10 ∨ i = 11 := by omega
  rcases this with rfl | rfl | rfl | rfl | rfl | rfl | rfl | rfl | rfl | rfl | rfl | rfl <;> simp [World.cell?, h, namesV]

def nameI (c : Int) : ByteArray := if 0 ≤ c ∧ c < 12 then nameS c.toNat else ByteArray.empty
theorem ret_string {a b : ByteArray} (h : a = b) : Ending.returned (.string a) = .returned (.string b) := by rw [h]

theorem name_any (c : Int) (w : World) (hN : TName w) : Calls Tryd.prog 11 #[.int .i64 c] w fun e w' => e = .returned (.string (nameI c)) ∧ w = w' := by
  by_cases h0 : c < 0
  · clear hN
    go_enter Tryd.func11, Tryd.ntmps11
    go_wp2
    go_ret
    exact ⟨ret_string (by rw [nameI, if_neg (by omega)]; rfl), rfl⟩
  · by_cases h1 : c < 12
    · have hc := hN.cell c.toNat (by omega)
      have hn : nameI c = nameS c.toNat := by rw [nameI, if_pos (by omega)]
      rw [hn]
      generalize nameS c.toNat = s at *
      clear hN hn
      go_enter Tryd.func11, Tryd.ntmps11
      go_wp2
      go_ret
      exact ⟨rfl, rfl⟩
    · clear hN
      have h2 : 12 ≤ c := by omega
      go_enter Tryd.func11, Tryd.ntmps11
      go_wp2
      go_ret
      exact ⟨ret_string (by rw [nameI, if_neg (by omega)]; rfl), rfl⟩

/-- Which name a text is (0: none). -/
def parseI (s : ByteArray) : Int := ((([1, 2, 3, 4, 5, 6, 7, 8, 9, 10, 11] : List Nat).find? fun j => decide ((nameS j).toList = s.toList)).getD 0 : Nat)
def parseE (s : ByteArray) : Int := if parseI s = 0 then 5 else 0
def Miss (s : ByteArray) (k : Nat) : Prop := ∀ j, 1 ≤ j → j < k → (nameS j).toList ≠ s.toList
theorem miss_one (s : ByteArray) : Miss s 1 := fun j h1 h2 => by omega
theorem miss_step {s : ByteArray} {k : Nat} (h : Miss s k) (hk : (nameS k).toList ≠ s.toList) : Miss s (k + 1) := fun j h1 h2 => by
  by_cases e : j = k
  · rw [e]; exact hk
  · exact h j h1 (by omega)
theorem parse_miss {s : ByteArray} (h : Miss s 12) : parseI s = 0 ∧ parseE s = 5 := by
  have e : parseI s = 0 := by
    unfold parseI
    rw [List.find?_eq_none.2 (fun j hj => by simp at hj; simp; exact h j (by omega) (by omega))]
    rfl
  exact ⟨e, by rw [parseE, if_pos e]⟩
theorem parse_hit {s : ByteArray} {k : Nat} (h1 : 1 ≤ k) (h2 : k < 12) (h : (nameS k).toList = s.toList) : parseI s = k ∧ parseE s = 0 := by
  have e : parseI s = k := by
    unfold parseI
    rw [← h]
    have : k = 1 ∨ k = 2 ∨ k = 3 ∨ k = 4 ∨ k = 5 ∨ k = 6 ∨ k = 7 ∨ k = 8 ∨ k = 9 ∨ k = 10 ∨ k = 11 := by omega
    rcases this with rfl | rfl | rfl | rfl | rfl | rfl | rfl | rfl | rfl | rfl | rfl <;> decide +kernel
  exact ⟨e, by rw [parseE, if_neg (by rw [e]; omega)]⟩
theorem name_full {s : ByteArray} {k : Nat} (h1 : 1 ≤ k) (h2 : k < 12) (h : (nameS k).toList = s.toList) : (!s.toList.isEmpty) = true := by
  rw [← h]
  have : k = 1 ∨ k = 2 ∨ k = 3 ∨ k = 4 ∨ k = 5 ∨ k = 6 ∨ k = 7 ∨ k = 8 ∨ k = 9 ∨ k = 10 ∨ k = 11 := by omega
  rcases this with rfl | rfl | rfl | rfl | rfl | rfl | rfl | rfl | rfl | rfl | rfl <;> decide +kernel
theorem name_none {s : ByteArray} (h : (nameS 0).toList = s.toList) : (!s.toList.isEmpty) = false := by
  rw [← h]; decide +kernel
theorem ret_parse {a b : Int} {s : ByteArray} (h : parseI s = a ∧ parseE s = b) : Ending.returned (.tuple #[.int .i64 a, .int .i64 b]) = .returned (.tuple #[.int .i64 (parseI s), .int .i64 (parseE s)]) := by rw [h.1, h.2]

set_option maxHeartbeats 1600000 in
theorem parse_any (s : ByteArray) (w : World) (hN : TName w) : Calls Tryd.prog 9 #[.string s] w fun e w' => e = .returned (.tuple #[.int .i64 (parseI s), .int .i64 (parseE s)]) ∧ w = w' := by
  have c0 := hN.cell 0 (by decide)
  have c1 := hN.cell 1 (by decide)
  have c2 := hN.cell 2 (by decide)
  have c3 := hN.cell 3 (by decide)
  have c4 := hN.cell 4 (by decide)
  have c5 := hN.cell 5 (by decide)
  have c6 := hN.cell 6 (by decide)
  have c7 := hN.cell 7 (by decide)
  have c8 := hN.cell 8 (by decide)
  have c9 := hN.cell 9 (by decide)
  have c10 := hN.cell 10 (by decide)
  have c11 := hN.cell 11 (by decide)
  clear hN
  obtain ⟨s0, e0⟩ : ∃ x, x = nameS 0 := ⟨_, rfl⟩
  rw [← e0] at c0
  have E0 : Hid (s0 = nameS 0) := e0
  clear e0
  obtain ⟨s1, e1⟩ : ∃ x, x = nameS 1 := ⟨_, rfl⟩
  rw [← e1] at c1
  have E1 : Hid (s1 = nameS 1) := e1
  clear e1
  obtain ⟨s2, e2⟩ : ∃ x, x = nameS 2 := ⟨_, rfl⟩
  rw [← e2] at c2
  have E2 : Hid (s2 = nameS 2) := e2
  clear e2
  obtain ⟨s3, e3⟩ : ∃ x, x = nameS 3 := ⟨_, rfl⟩
  rw [← e3] at c3
  have E3 : Hid (s3 = nameS 3) := e3
  clear e3
  obtain ⟨s4, e4⟩ : ∃ x, x = nameS 4 := ⟨_, rfl⟩
  rw [← e4] at c4
  have E4 : Hid (s4 = nameS 4) := e4
  clear e4
  obtain ⟨s5, e5⟩ : ∃ x, x = nameS 5 := ⟨_, rfl⟩
  rw [← e5] at c5
  have E5 : Hid (s5 = nameS 5) := e5
  clear e5
  obtain ⟨s6, e6⟩ : ∃ x, x = nameS 6 := ⟨_, rfl⟩
  rw [← e6] at c6
  have E6 : Hid (s6 = nameS 6) := e6
  clear e6
  obtain ⟨s7, e7⟩ : ∃ x, x = nameS 7 := ⟨_, rfl⟩
  rw [← e7] at c7
  have E7 : Hid (s7 = nameS 7) := e7
  clear e7
  obtain ⟨s8, e8⟩ : ∃ x, x = nameS 8 := ⟨_, rfl⟩
  rw [← e8] at c8
  have E8 : Hid (s8 = nameS 8) := e8
  clear e8
  obtain ⟨s9, e9⟩ : ∃ x, x = nameS 9 := ⟨_, rfl⟩
  rw [← e9] at c9
  have E9 : Hid (s9 = nameS 9) := e9
  clear e9
  obtain ⟨s10, e10⟩ : ∃ x, x = nameS 10 := ⟨_, rfl⟩
  rw [← e10] at c10
  have E10 : Hid (s10 = nameS 10) := e10
  clear e10
  obtain ⟨s11, e11⟩ : ∃ x, x = nameS 11 := ⟨_, rfl⟩
  rw [← e11] at c11
  have E11 : Hid (s11 = nameS 11) := e11
  clear e11
  have i0 : ∀ w, (Instr.index 50 (.agg #[.string s0, .string s1, .string s2, .string s3, .string s4, .string s5, .string s6, .string s7, .string s8, .string s9, .string s10, .string s11]) (.int .i64 0)).run Tryd.prog w = .ok (.string s0) w := fun _ => by kernel_rfl
  have i1 : ∀ w, (Instr.index 50 (.agg #[.string s0, .string s1, .string s2, .string s3, .string s4, .string s5, .string s6, .string s7, .string s8, .string s9, .string s10, .string s11]) (.int .i64 1)).run Tryd.prog w = .ok (.string s1) w := fun _ => by kernel_rfl
  have i2 : ∀ w, (Instr.index 50 (.agg #[.string s0, .string s1, .string s2, .string s3, .string s4, .string s5, .string s6, .string s7, .string s8, .string s9, .string s10, .string s11]) (.int .i64 2)).run Tryd.prog w = .ok (.string s2) w := fun _ => by kernel_rfl
  have i3 : ∀ w, (Instr.index 50 (.agg #[.string s0, .string s1, .string s2, .string s3, .string s4, .string s5, .string s6, .string s7, .string s8, .string s9, .string s10, .string s11]) (.int .i64 3)).run Tryd.prog w = .ok (.string s3) w := fun _ => by kernel_rfl
  have i4 : ∀ w, (Instr.index 50 (.agg #[.string s0, .string s1, .string s2, .string s3, .string s4, .string s5, .string s6, .string s7, .string s8, .string s9, .string s10, .string s11]) (.int .i64 4)).run Tryd.prog w = .ok (.string s4) w := fun _ => by kernel_rfl
  have i5 : ∀ w, (Instr.index 50 (.agg #[.string s0, .string s1, .string s2, .string s3, .string s4, .string s5, .string s6, .string s7, .string s8, .string s9, .string s10, .string s11]) (.int .i64 5)).run Tryd.prog w = .ok (.string s5) w := fun _ => by kernel_rfl
  have i6 : ∀ w, (Instr.index 50 (.agg #[.string s0, .string s1, .string s2, .string s3, .string s4, .string s5, .string s6, .string s7, .string s8, .string s9, .string s10, .string s11]) (.int .i64 6)).run Tryd.prog w = .ok (.string s6) w := fun _ => by kernel_rfl
  have i7 : ∀ w, (Instr.index 50 (.agg #[.string s0, .string s1, .string s2, .string s3, .string s4, .string s5, .string s6, .string s7, .string s8, .string s9, .string s10, .string s11]) (.int .i64 7)).run Tryd.prog w = .ok (.string s7) w := fun _ => by kernel_rfl
  have i8 : ∀ w, (Instr.index 50 (.agg #[.string s0, .string s1, .string s2, .string s3, .string s4, .string s5, .string s6, .string s7, .string s8, .string s9, .string s10, .string s11]) (.int .i64 8)).run Tryd.prog w = .ok (.string s8) w := fun _ => by kernel_rfl
  have i9 : ∀ w, (Instr.index 50 (.agg #[.string s0, .string s1, .string s2, .string s3, .string s4, .string s5, .string s6, .string s7, .string s8, .string s9, .string s10, .string s11]) (.int .i64 9)).run Tryd.prog w = .ok (.string s9) w := fun _ => by kernel_rfl
  have i10 : ∀ w, (Instr.index 50 (.agg #[.string s0, .string s1, .string s2, .string s3, .string s4, .string s5, .string s6, .string s7, .string s8, .string s9, .string s10, .string s11]) (.int .i64 10)).run Tryd.prog w = .ok (.string s10) w := fun _ => by kernel_rfl
  have i11 : ∀ w, (Instr.index 50 (.agg #[.string s0, .string s1, .string s2, .string s3, .string s4, .string s5, .string s6, .string s7, .string s8, .string s9, .string s10, .string s11]) (.int .i64 11)).run Tryd.prog w = .ok (.string s11) w := fun _ => by kernel_rfl
  go_enter Tryd.func9, Tryd.ntmps9
  go_wp2
  go_loop [7] (fun i => ∃ k : Nat, k ≤ 12 ∧ Miss s k ∧ i = .int .i64 k) (fun i => 12 - (intOf i).toNat)
  case atStart => exact ⟨0, by omega, fun j h1 h2 => by omega, rfl⟩
  case round =>
    obtain ⟨k, hk, hm, rfl⟩ := hrel
    have : k = 0 ∨ k = 1 ∨ k = 2 ∨ k = 3 ∨ k = 4 ∨ k = 5 ∨ k = 6 ∨ k = 7 ∨ k = 8 ∨ k = 9 ∨ k = 10 ∨ k = 11 ∨ k = 12 := by omega
    rcases this with rfl | rfl | rfl | rfl | rfl | rfl | rfl | rfl | rfl | rfl | rfl | rfl | rfl
    · go_wp2
      · have h : s0.toList = s.toList := by assumption
        have h2 : (!s.toList.isEmpty) = true := by assumption
        rw [E0.out] at h
        rw [name_none h] at h2
        cases h2
      · exact ⟨⟨1, by omega, miss_one s, rfl⟩, by simp [intOf]⟩
      · exact ⟨⟨1, by omega, miss_one s, rfl⟩, by simp [intOf]⟩
    · go_wp2
      · have h : s1.toList = s.toList := by assumption
        rw [E1.out] at h
        go_ret2
        exact ⟨ret_parse (parse_hit (by decide) (by decide) h), rfl⟩
      · have h : s1.toList = s.toList := by assumption
        have h2 : (!s.toList.isEmpty) = false := by assumption
        rw [E1.out] at h
        rw [name_full (by decide) (by decide) h] at h2
        cases h2
      · have h : ¬ s1.toList = s.toList := by assumption
        rw [E1.out] at h
        exact ⟨⟨2, by omega, miss_step hm h, rfl⟩, by simp [intOf]⟩
    · go_wp2
      · have h : s2.toList = s.toList := by assumption
        rw [E2.out] at h
        go_ret2
        exact ⟨ret_parse (parse_hit (by decide) (by decide) h), rfl⟩
      · have h : s2.toList = s.toList := by assumption
        have h2 : (!s.toList.isEmpty) = false := by assumption
        rw [E2.out] at h
        rw [name_full (by decide) (by decide) h] at h2
        cases h2
      · have h : ¬ s2.toList = s.toList := by assumption
        rw [E2.out] at h
        exact ⟨⟨3, by omega, miss_step hm h, rfl⟩, by simp [intOf]⟩
    · go_wp2
      · have h : s3.toList = s.toList := by assumption
        rw [E3.out] at h
        go_ret2
        exact ⟨ret_parse (parse_hit (by decide) (by decide) h), rfl⟩
      · have h : s3.toList = s.toList := by assumption
        have h2 : (!s.toList.isEmpty) = false := by assumption
        rw [E3.out] at h
        rw [name_full (by decide) (by decide) h] at h2
        cases h2
      · have h : ¬ s3.toList = s.toList := by assumption
        rw [E3.out] at h
        exact ⟨⟨4, by omega, miss_step hm h, rfl⟩, by simp [intOf]⟩
    · go_wp2
      · have h : s4.toList = s.toList := by assumption
        rw [E4.out] at h
        go_ret2
        exact ⟨ret_parse (parse_hit (by decide) (by decide) h), rfl⟩
      · have h : s4.toList = s.toList := by assumption
        have h2 : (!s.toList.isEmpty) = false := by assumption
        rw [E4.out] at h
        rw [name_full (by decide) (by decide) h] at h2
        cases h2
      · have h : ¬ s4.toList = s.toList := by assumption
        rw [E4.out] at h
        exact ⟨⟨5, by omega, miss_step hm h, rfl⟩, by simp [intOf]⟩
    · go_wp2
      · have h : s5.toList = s.toList := by assumption
        rw [E5.out] at h
        go_ret2
        exact ⟨ret_parse (parse_hit (by decide) (by decide) h), rfl⟩
      · have h : s5.toList = s.toList := by assumption
        have h2 : (!s.toList.isEmpty) = false := by assumption
        rw [E5.out] at h
        rw [name_full (by decide) (by decide) h] at h2
        cases h2
      · have h : ¬ s5.toList = s.toList := by assumption
        rw [E5.out] at h
        exact ⟨⟨6, by omega, miss_step hm h, rfl⟩, by simp [intOf]⟩
    · go_wp2
      · have h : s6.toList = s.toList := by assumption
        rw [E6.out] at h
        go_ret2
        exact ⟨ret_parse (parse_hit (by decide) (by decide) h), rfl⟩
      · have h : s6.toList = s.toList := by assumption
        have h2 : (!s.toList.isEmpty) = false := by assumption
        rw [E6.out] at h
        rw [name_full (by decide) (by decide) h] at h2
        cases h2
      · have h : ¬ s6.toList = s.toList := by assumption
        rw [E6.out] at h
        exact ⟨⟨7, by omega, miss_step hm h, rfl⟩, by simp [intOf]⟩
    · go_wp2
      · have h : s7.toList = s.toList := by assumption
        rw [E7.out] at h
        go_ret2
        exact ⟨ret_parse (parse_hit (by decide) (by decide) h), rfl⟩
      · have h : s7.toList = s.toList := by assumption
        have h2 : (!s.toList.isEmpty) = false := by assumption
        rw [E7.out] at h
        rw [name_full (by decide) (by decide) h] at h2
        cases h2
      · have h : ¬ s7.toList = s.toList := by assumption
        rw [E7.out] at h
        exact ⟨⟨8, by omega, miss_step hm h, rfl⟩, by simp [intOf]⟩
    · go_wp2
      · have h : s8.toList = s.toList := by assumption
        rw [E8.out] at h
        go_ret2
        exact ⟨ret_parse (parse_hit (by decide) (by decide) h), rfl⟩
      · have h : s8.toList = s.toList := by assumption
        have h2 : (!s.toList.isEmpty) = false := by assumption
        rw [E8.out] at h
        rw [name_full (by decide) (by decide) h] at h2
        cases h2
      · have h : ¬ s8.toList = s.toList := by assumption
        rw [E8.out] at h
        exact ⟨⟨9, by omega, miss_step hm h, rfl⟩, by simp [intOf]⟩
    · go_wp2
      · have h : s9.toList = s.toList := by assumption
        rw [E9.out] at h
        go_ret2
        exact ⟨ret_parse (parse_hit (by decide) (by decide) h), rfl⟩
      · have h : s9.toList = s.toList := by assumption
        have h2 : (!s.toList.isEmpty) = false := by assumption
        rw [E9.out] at h
        rw [name_full (by decide) (by decide) h] at h2
        cases h2
      · have h : ¬ s9.toList = s.toList := by assumption
        rw [E9.out] at h
        exact ⟨⟨10, by omega, miss_step hm h, rfl⟩, by simp [intOf]⟩
    · go_wp2
      · have h : s10.toList = s.toList := by assumption
        rw [E10.out] at h
        go_ret2
        exact ⟨ret_parse (parse_hit (by decide) (by decide) h), rfl⟩
      · have h : s10.toList = s.toList := by assumption
        have h2 : (!s.toList.isEmpty) = false := by assumption
        rw [E10.out] at h
        rw [name_full (by decide) (by decide) h] at h2
        cases h2
      · have h : ¬ s10.toList = s.toList := by assumption
        rw [E10.out] at h
        exact ⟨⟨11, by omega, miss_step hm h, rfl⟩, by simp [intOf]⟩
    · go_wp2
      · have h : s11.toList = s.toList := by assumption
        rw [E11.out] at h
        go_ret2
        exact ⟨ret_parse (parse_hit (by decide) (by decide) h), rfl⟩
      · have h : s11.toList = s.toList := by assumption
        have h2 : (!s.toList.isEmpty) = false := by assumption
        rw [E11.out] at h
        rw [name_full (by decide) (by decide) h] at h2
        cases h2
      · have h : ¬ s11.toList = s.toList := by assumption
        rw [E11.out] at h
        exact ⟨⟨12, by omega, miss_step hm h, rfl⟩, by simp [intOf]⟩
    · go_wp2
      go_ret2
      exact ⟨ret_parse (parse_miss hm), rfl⟩
end Go.Proofs.YtpggdojclhdkjaaDoor
