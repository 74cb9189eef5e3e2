/- Layer 16, part P. -/
import Derived.Test.YtcgndnpnnfjgpaaFloO
namespace Go.Proofs.Ytcgndnpnnfjgpaa
open Go.RowKit Go.Shelf

theorem at_0 (b : Nat) (W : World) : (Instr.indexAt 64 (.pointer (some ⟨b, 0, none⟩)) (.int .i64 0)).run Try.prog W = .ok (.pointer (some ⟨b, 0, none⟩)) W := by
  go_simp
theorem at_1 (b : Nat) (W : World) : (Instr.indexAt 64 (.pointer (some ⟨b, 0, none⟩)) (.int .i64 1)).run Try.prog W = .ok (.pointer (some ⟨b, 1, none⟩)) W := by
  go_simp
theorem load_63 (b i : Nat) (n : Int) (W : World) (h : W.cell? ⟨b, i, none⟩ = some (.int .i16 n)) : (Instr.loadAt 63 (.pointer (some ⟨b, i, none⟩))).run Try.prog W = .ok (.int .i16 n) W := by
  go_simp
theorem alloc_32 (W : World) : (Instr.alloc 32 true (.tuple #[])).run Try.prog W = .ok (.pointer (some ⟨W.heap.size, 0, none⟩)) (W.alloc (.cells #[.int .u32 0, .int .u32 0] 32)) := by
  go_simp
theorem store_32 (b c d : Nat) (W : World) (h0 : (W.cell? ⟨b, 0, none⟩).isSome = true) (h1 : (W.cell? ⟨b, 1, none⟩).isSome = true) (f0 : W.frozen? ⟨b, 0, none⟩ = false) (f1 : W.frozen? ⟨b, 1, none⟩ = false) :
    (Instr.storeAt 32 (.pointer (some ⟨b, 0, none⟩)) (numV c d)).run Try.prog W = .ok () ((W.setCell ⟨b, 0, none⟩ (.int .u32 c)).setCell ⟨b, 1, none⟩ (.int .u32 d)) := by
  obtain ⟨v0, h0⟩ := Option.isSome_iff_exists.1 h0
  obtain ⟨v1, h1⟩ := Option.isSome_iff_exists.1 h1
  go_simp

theorem call_40 {o : Oper} {x : Operand} {ρ : Operand → Value} (h : o.op = .call { callee := .value (.func 40), args := #[x], argTypes := #[63] }) (hf : ρ (.func 40) = .func (.func 40) #[] #[]) (W : World) : (execOp ρ o).run Try.prog W = .ok (.enter 40 #[ρ x]) W := by
  simp only [execOp, h, resolve, hf]
  go_simp
theorem call_39 {o : Oper} {x y : Operand} {ρ : Operand → Value} (h : o.op = .call { callee := .value (.func 39), args := #[x, y], argTypes := #[3, 3] }) (hf : ρ (.func 39) = .func (.func 39) #[] #[]) (W : World) : (execOp ρ o).run Try.prog W = .ok (.enter 39 #[ρ x, ρ y]) W := by
  simp only [execOp, h, resolve, hf]
  go_simp

/-- The program's numbers are small. -/
def Words (x y : Nat → Int) : Prop := ∀ j, j < 3 → (-32768 ≤ x j ∧ x j ≤ 32767) ∧ (-32768 ≤ y j ∧ y j ≤ 32767)
theorem small_le (n : Int) : (n.tmod 1001).natAbs ≤ 1000 := by
  rw [Int.natAbs_tmod]
  have := Nat.mod_lt n.natAbs (show 0 < (1001 : Int).natAbs by decide)
  have e : (1001 : Int).natAbs = 1001 := rfl
  rw [e] at *
  omega
theorem small_lt (n : Int) : (n.tmod 1001).natAbs < 2 ^ 24 := Nat.lt_of_le_of_lt (small_le n) (by decide)

theorem step_1 {Q : Exit → Act → World → Prop} {w W : World} {x y : Nat → Int} {k : Int} {listed : Array Bool} {u : Nat → Value} {i : Nat} (hW : Words x y) (hI : Inv w x y listed u W) (hi : i ∈ Region.ready .any ops1 listed) :
    wpOp Try.prog ops1 Q i (fun a W' => ∃ u', a = T w.heap.size x y k u' ∧ Inv w x y (listed.setIfInBounds i true) u' W') (T w.heap.size x y k u) W := by
  have hlt : i < 27 := by
    obtain ⟨-, o, ho, -⟩ := mem_ready.1 hi
    have := (Array.getElem?_eq_some_iff.1 ho).1
    have hs : ops1.size = 27 := by kernel_rfl
    omega
  have hnot := (mem_ready.1 hi).1
  have hno : ¬ On listed i := by
    intro h
    unfold On at h
    have e1 : listed.getD i false = (listed[i]?).getD false := by simp
    have e2 : listed.getD i true = (listed[i]?).getD true := by simp
    rw [e1] at h
    rw [e2] at hnot
    cases hx : listed[i]? <;> rw [hx] at h hnot <;> simp_all
  by_cases h21 : i < 21
  · obtain ⟨j, r, hj, hr, rfl⟩ : ∃ j r, j < 3 ∧ r < 7 ∧ i = 7 * j + r := ⟨i / 7, i % 7, by omega, by omega, by omega⟩
    have hslot : ∀ s, s < 7 → slot (20 + 7 * j + s) := by
      intro s hs
      simp only [slot, List.mem_cons, List.not_mem_nil, or_false]
      omega
    have h7 : r = 0 ∨ r = 1 ∨ r = 2 ∨ r = 3 ∨ r = 4 ∨ r = 5 ∨ r = 6 := by omega
    rcases h7 with rfl | rfl | rfl | rfl | rfl | rfl | rfl
    · obtain ⟨o, ho, hp, hd, hg⟩ := row_of (rows0.at hj)
      refine op_value ho hg (.pointer (some ⟨w.heap.size + j, 0, none⟩)) (w' := W) ?_ ?_
      · simp only [execOp, hp, T_box.at hj]
        rw [show (T w.heap.size x y k u).eval (.const (.int .i64 0)) = .int .i64 0 from rfl]
        rw [Sem.run_bind, at_0]
        rfl
      · rw [hd]
        exact ⟨_, T_put (hslot 0 (by omega)) _, hI.put hj (by omega) (Below.refl _ _) rfl⟩
    · obtain ⟨o, ho, hp, hd, hg⟩ := row_of (rows1.at hj)
      have p0 : u (20 + 7 * j) = .pointer (some ⟨w.heap.size + j, 0, none⟩) := hI.facts j 0 hj (by omega) ((needs.1.at hj).listed hi)
      refine op_value ho hg (.int .i16 (x j)) (w' := W) ?_ ?_
      · simp only [execOp, hp, T_eval (d := 20 + 7 * j) (hslot 0 (by omega)), p0]
        rw [Sem.run_bind, load_63 _ _ _ _ (hI.boxes j hj).1]
        rfl
      · rw [hd]
        exact ⟨_, T_put (hslot 1 (by omega)) _, hI.put hj (by omega) (Below.refl _ _) rfl⟩
    · obtain ⟨o, ho, hp, hd, hg⟩ := row_of (rows2.at hj)
      have p0 : u (20 + 7 * j + 1) = .int .i16 (x j) := hI.facts j 1 hj (by omega) ((needs.2.1.at hj).listed hi)
      refine op_call ho hg (call_40 hp rfl W) ?_
      rw [T_eval (hslot 1 (by omega)), p0]
      refine (small_any _ _ (hW j hj).1).mono ?_
      rintro e W' ⟨rfl, rfl⟩
      refine ⟨_, rfl, ?_⟩
      rw [hd]
      exact ⟨_, T_put (hslot 2 (by omega)) _, hI.put hj (by omega) (Below.refl _ _) rfl⟩
    · obtain ⟨o, ho, hp, hd, hg⟩ := row_of (rows3.at hj)
      refine op_value ho hg (.pointer (some ⟨w.heap.size + j, 1, none⟩)) (w' := W) ?_ ?_
      · simp only [execOp, hp, T_box.at hj]
        rw [show (T w.heap.size x y k u).eval (.const (.int .i64 1)) = .int .i64 1 from rfl]
        rw [Sem.run_bind, at_1]
        rfl
      · rw [hd]
        exact ⟨_, T_put (hslot 3 (by omega)) _, hI.put hj (by omega) (Below.refl _ _) rfl⟩
    · obtain ⟨o, ho, hp, hd, hg⟩ := row_of (rows4.at hj)
      have p0 : u (20 + 7 * j + 3) = .pointer (some ⟨w.heap.size + j, 1, none⟩) := hI.facts j 3 hj (by omega) ((needs.2.2.1.at hj).listed hi)
      refine op_value ho hg (.int .i16 (y j)) (w' := W) ?_ ?_
      · simp only [execOp, hp, T_eval (hslot 3 (by omega)), p0]
        rw [Sem.run_bind, load_63 _ _ _ _ (hI.boxes j hj).2]
        rfl
      · rw [hd]
        exact ⟨_, T_put (hslot 4 (by omega)) _, hI.put hj (by omega) (Below.refl _ _) rfl⟩
    · obtain ⟨o, ho, hp, hd, hg⟩ := row_of (rows5.at hj)
      have p0 : u (20 + 7 * j + 4) = .int .i16 (y j) := hI.facts j 4 hj (by omega) ((needs.2.2.2.1.at hj).listed hi)
      refine op_call ho hg (call_40 hp rfl W) ?_
      rw [T_eval (hslot 4 (by omega)), p0]
      refine (small_any _ _ (hW j hj).2).mono ?_
      rintro e W' ⟨rfl, rfl⟩
      refine ⟨_, rfl, ?_⟩
      rw [hd]
      exact ⟨_, T_put (hslot 5 (by omega)) _, hI.put hj (by omega) (Below.refl _ _) rfl⟩
    · obtain ⟨o, ho, hp, hd, hg⟩ := row_of (rows6.at hj)
      have p0 : u (20 + 7 * j + 2) = .int .i64 ((x j).tmod 1001) := hI.facts j 2 hj (by omega) ((needs.2.2.2.2.1.at hj).listed hi)
      have p1 : u (20 + 7 * j + 5) = .int .i64 ((y j).tmod 1001) := hI.facts j 5 hj (by omega) ((needs.2.2.2.2.2.1.at hj).listed hi)
      refine op_call ho hg (call_39 hp rfl W) ?_
      rw [T_eval (hslot 2 (by omega)), T_eval (hslot 5 (by omega)), p0, p1]
      refine (mkV _ _ _ (small_lt _) (small_lt _)).mono ?_
      rintro e W' ⟨c, d, hc, hd', rfl, hB⟩
      refine ⟨_, rfl, ?_⟩
      rw [hd]
      exact ⟨_, T_put (hslot 6 (by omega)) _, hI.put hj (by omega) hB ⟨c, d, hc, hd', rfl⟩⟩
  · by_cases h24 : i < 24
    · obtain ⟨j, hj, rfl⟩ : ∃ j, j < 3 ∧ i = 21 + j := ⟨i - 21, by omega, by omega⟩
      have hs9 : slot (9 + j) := by
        simp only [slot, List.mem_cons, List.not_mem_nil, or_false]
        omega
      obtain ⟨o, ho, hp, hd, hg⟩ := row_of (rows7.at hj)
      refine op_value ho hg (.pointer (some ⟨W.heap.size, 0, none⟩)) (w' := W.alloc (.cells #[.int .u32 0, .int .u32 0] 32)) ?_ ?_
      · simp only [execOp, hp]
        rw [Sem.run_bind, alloc_32]
        rfl
      · rw [hd]
        exact ⟨_, T_put hs9 _, hI.alloc hj hno⟩
    · obtain ⟨j, hj, rfl⟩ : ∃ j, j < 3 ∧ i = 24 + j := ⟨i - 24, by omega, by omega⟩
      have hs9 : slot (9 + j) := by
        simp only [slot, List.mem_cons, List.not_mem_nil, or_false]
        omega
      have hs6 : slot (20 + 7 * j + 6) := by
        simp only [slot, List.mem_cons, List.not_mem_nil, or_false]
        omega
      obtain ⟨o, ho, hp, hd, hg⟩ := row_of (rows8.at hj)
      have l1 := (needs.2.2.2.2.2.2.1.at hj).listed hi
      obtain ⟨b, e9, hb1, hb2, c0, c1, f0, f1⟩ := hI.hold j hj l1
      obtain ⟨c, d, hc, hd', p6⟩ : ∃ a b, Val a ((x j).tmod 1001) ∧ Val b ((y j).tmod 1001) ∧ u (20 + 7 * j + 6) = numV a b := hI.facts j 6 hj (by omega) ((needs.2.2.2.2.2.2.2.at hj).listed hi)
      refine op_skip ho hg hd (w' := (W.setCell ⟨b, 0, none⟩ (.int .u32 c)).setCell ⟨b, 1, none⟩ (.int .u32 d)) ?_ ?_
      · simp only [execOp, hp, T_eval hs9, T_eval hs6, e9, p6]
        rw [Sem.run_bind, store_32 _ _ _ _ c0 c1 f0 f1]
        rfl
      · exact ⟨_, rfl, hI.store hj l1 e9 hc hd' hno⟩

/-- No operation waits for a later one. -/
theorem forward : (ops1.toList.zipIdx.all fun x => x.1.after.all fun e => !Region.binds .any e || decide (e.on < x.2)) = true := by kernel_rfl
theorem all_on {listed : Array Bool} (h : Region.ready .any ops1 listed = []) (hs : listed.size = 27) : ∀ n i, i < n → i < 27 → On listed i := by
  intro n
  induction n with
  | zero => intro i hi; omega
  | succ n ih =>
    intro i hi h27
    refine Classical.byContradiction fun hno => ?_
    have hsz : ops1.size = 27 := by kernel_rfl
    have : i ∈ Region.ready .any ops1 listed := by
      refine mem_ready.2 ⟨?_, ops1[i]'(by omega), by simp, fun e he hb => ?_⟩
      · have e1 : listed.getD i false = (listed[i]?).getD false := by simp
        have e2 : listed.getD i true = (listed[i]?).getD true := by simp
        unfold On at hno
        rw [e1] at hno
        rw [e2]
        have : listed[i]? = some listed[i] := by simp
        rw [this] at hno ⊢
        simpa using hno
      · have hf := forward
        rw [List.all_eq_true] at hf
        have hm : (ops1[i]'(by omega), i) ∈ ops1.toList.zipIdx := by
          rw [List.mem_zipIdx_iff_getElem?]
          simp
        have := hf _ hm
        simp only [Array.all_eq_true_iff_forall_mem] at this
        have := this e he
        rw [hb] at this
        simp at this
        exact ih e.on (by omega) (by omega)
    rw [h] at this
    cases this

/-- What the first region leaves. -/
theorem region_1 {Q : Exit → Act → World → Prop} {w W : World} {x y : Nat → Int} {k : Int} {u : Nat → Value} (hW : Words x y) (hI : Inv w x y (Array.replicate 27 false) u { W with drawn := W.drawn + 1 })
    (hQ : ∀ u' W' , (∀ j, j < 3 → Stored W' (u' (9 + j)) ((x j).tmod 1001) ((y j).tmod 1001)) → (∀ j, j < 3 → W'.cell? ⟨w.heap.size + j, 0, none⟩ = some (.int .i16 (x j)) ∧ W'.cell? ⟨w.heap.size + j, 1, none⟩ = some (.int .i16 (y j))) → w.heap.size + 3 ≤ W'.heap.size → Below w.heap.size w W' →
      Q .normal (T w.heap.size x y k u') W') :
    (Code.region 1 ops1 true).wp Try.prog Q (T w.heap.size x y k u) W := by
  have hsz : ops1.size = 27 := by kernel_rfl
  refine wp_region_any (by kernel_rfl) ?_
  rw [hsz]
  refine wpAny_by (fun listed a W' => ∃ u', a = T w.heap.size x y k u' ∧ Inv w x y listed u' W' ∧ listed.size = 27) ?_ ?_ 27 _ _ _ ?_ ⟨u, rfl, hI, by simp⟩
  · rintro listed a W' i ⟨u', rfl, h, hl⟩ hi
    refine wpOp_mono ?_ (step_1 hW h hi)
    rintro a' W'' ⟨u'', rfl, h'⟩
    exact ⟨u'', rfl, h', by simpa using hl⟩
  · rintro listed a W' ⟨u', rfl, h, hl⟩ hr
    have hall := fun i (hi : i < 27) => all_on hr hl (i + 1) i (by omega) hi
    exact hQ u' W' (fun j hj => h.stored j hj (hall _ (by omega))) h.boxes h.size h.below
  · unfold left
    exact Nat.le_trans (List.length_filter_le _ _) (by rw [hsz]; simp)

end Go.Proofs.Ytcgndnpnnfjgpaa
