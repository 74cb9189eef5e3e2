/- Layer 16 (numeric), NumericPolynomials (P16.1): lifted; the row. -/
import Derived.Test.YtmhfdjognikilaaPolK
import Derived.Test.YtmhfdjognikilaaProR
import Derived.Deep.Slices
import Derived.Carry
namespace Go.Proofs.Ytmhfdjognikilaa
open Go.RowKit Go.Shelf Go.ChangeShapes Go.WideShapes

theorem cells22 : Try.prog.cellsOf 22 = 1 := by kernel_rfl
theorem cells23 : Try.prog.cellsOf 23 = 2 := by kernel_rfl
theorem laidOut16 : laidOutB Try.prog = true := by kernel_rfl

theorem nat_of_u32 {n : Int} (h : (Lit.int .u32 n).wf = true) : ∃ k : Nat, n = (k : Int) := by
  obtain ⟨h1, -⟩ := bounds_u32 h
  exact ⟨n.toNat, by omega⟩

/-- Two words that came in. -/
theorem open_words {H : Type} {enc : TypeId × Value → H} {W : World} {bb n : Nat} {sp : Nat → Bool} {hd : Bool} {c0 c1 : Value} {y : DataW H × List MemPlace} (h : DataW.trod enc Try.prog W bb sp hd n 23 [c0, c1] = some y) :
    ∃ a b : Nat, c0 = .int .u32 a ∧ c1 = .int .u32 b := by
  obtain ⟨y0, y1, m, rfl, hy0, hy1⟩ := trod_array2 Try.underlying23 cells22 h
  obtain ⟨x0, e0, rfl, w0⟩ := DataW.trod_int Try.underlying22 hy0
  obtain ⟨x1, e1, rfl, w1⟩ := DataW.trod_int Try.underlying22 hy1
  simp at e0 e1
  subst e0 e1
  obtain ⟨a, rfl⟩ := nat_of_u32 w0
  obtain ⟨b, rfl⟩ := nat_of_u32 w1
  exact ⟨a, b, rfl, rfl⟩
set_option maxRecDepth 100000 in
theorem open_point {H : Type} {enc : TypeId × Value → H} {W : World} {base bb : Nat} {sp : Nat → Bool} {v : Value} {d : DataW H} {p : List MemPlace} (hok : Value.okWide Try.prog W .any base 23 v) (h : DataW.Trod enc Try.prog W bb sp true 23 v d p) :
    ∃ a b : Nat, v = .agg #[.int .u32 a, .int .u32 b] := by
  obtain ⟨cs, rfl, hsz, _⟩ : ∃ cs, v = .agg cs ∧ cs.size = Try.prog.cellsOf 23 ∧ Row.okWide Try.prog W .any base 23 cs := by
    simpa [Value.okWide, Try.underlying23] using hok
  rw [cells23] at hsz
  obtain ⟨l⟩ := cs
  obtain ⟨c0, c1, rfl⟩ := list2 l hsz
  obtain ⟨fuel, hf⟩ := h
  obtain ⟨a, b, rfl, rfl⟩ := open_words hf
  exact ⟨a, b, rfl⟩
/-- Pairs of words that came in. -/
theorem open_list {H : Type} {enc : TypeId × Value → H} {W : World} {a : Option Addr} {len cap : Nat} {d : DataW H} {p : List MemPlace} (h : DataW.Trod enc Try.prog W 0 (fun _ => true) true 26 (.slice a len cap) d p) : ∃ zs, Inp W a len zs := by
  obtain ⟨fuel, hf⟩ := h
  rcases Go.Deep.open_slice Try.underlying26 hf with ⟨hcs, -⟩ | ⟨a', len', cap', m, n, D, Pl, hcs, -, hl, hm, hmm, -, hx⟩
  · simp [Value.cells] at hcs
    exact ⟨fun _ => (0, 0), .inl hcs.2.1⟩
  · simp [Value.cells] at hcs
    obtain ⟨rfl, rfl, rfl⟩ := hcs
    simp only [if_true] at hmm
    subst hmm
    rw [cells23] at hx
    have each : ∀ i, i < len → ∃ z : Nat × Nat, W.cell? (a'.add (i * 2)) = some (.int .u32 z.1) ∧ W.cell? (a'.add (i * 2 + 1)) = some (.int .u32 z.2) := by
      intro i hi
      obtain ⟨cs', h1, h2⟩ := hx i (by omega)
      obtain ⟨_, hlen, hcell⟩ := World.cells?_some h1
      match cs', hlen with
      | [c0, c1], _ =>
        obtain ⟨x, y, rfl, rfl⟩ := open_words h2
        have e0 := hcell 0 (by omega)
        have e1 := hcell 1 (by omega)
        rw [Go.Deep.add_add] at e0 e1
        exact ⟨(x, y), by simpa using e0, by simpa using e1⟩
    obtain ⟨zs, hz⟩ := Go.Deep.choose_lt each
    refine ⟨zs, ?_⟩
    by_cases h0 : len = 0
    · exact .inl h0
    · obtain ⟨b, o, sp⟩ := a'
      have hs := World.cell?_spot (hz 0 (by omega)).1
      obtain rfl : sp = none := by simpa [Addr.add] using hs
      refine .inr ⟨b, o, rfl, World.block_lt_of_cell? W _ (by simpa [Addr.add] using (hz 0 (by omega)).1), fun j hj => ?_⟩
      have h1 := (hz j hj).1
      have h2 := (hz j hj).2
      rw [add_plain] at h1 h2
      exact ⟨h1, by rw [Nat.add_assoc]; exact h2⟩

set_option maxHeartbeats 800000 in
set_option maxRecDepth 100000 in
theorem numericPolynomials_lifted (os : Os) (started : os.Started) (H : Type) (enc : TypeId × Value → H) :
    ReturnsInHanded {} Try.checked os 4 .any (Rows.numericPolynomialsSpec.pre6 enc Try.prog Try.f4 Rows.numericPolynomialsRow.domain false) (Rows.numericPolynomialsSpec.post enc Try.prog Try.f4 false true false false) := by
  refine returnsInHanded_of_change (C := Try.checked) Try.own started (by kernel_rfl) Try.func4
    (ChangeSpec.witness6 (enc := enc) (C := Try.checked) false ⟨#[], #[.slice none 0 0, .slice none 0 0, .agg #[.int .u32 0, .int .u32 0]], []⟩ 8 (by kernel_rfl) (by kernel_rfl) (by kernel_rfl) (by kernel_rfl)) ?_
  intro W base args ds gs before hval0 hW _ _
  have hval : ∀ (j : Nat) t v, Try.f4.params[j]? = some t → args[j]? = some v → Value.okWide Try.prog W .any base t v := hval0
  have hW' := hW
  obtain ⟨p, q, hA0, hV, rfl, _, _⟩ := hW
  have hA : DataW.TrodAll enc Try.prog W 0 (fun _ => true) true Try.f4.params.toList args.toList ds p := hA0
  rw [Try.params4] at hA hval
  obtain ⟨v0, vs0, d0, ds0, p0, q0, hargs, rfl, rfl, h0, r0⟩ := trodAll_cons hA
  obtain ⟨v1, vs1, d1, ds1, p1, q1, rfl, rfl, rfl, h1, r1⟩ := trodAll_cons r0
  obtain ⟨v2, vs2, d2, ds2, p2, q2, rfl, rfl, rfl, h2, r2⟩ := trodAll_cons r1
  obtain ⟨rfl, rfl, rfl⟩ := trodAll_nil r2
  obtain rfl : args = #[v0, v1, v2] := by cases args; simp_all
  obtain ⟨rfl, rfl⟩ := trodVars_none hV
  obtain ⟨ga, n, ca, rfl⟩ := okWide_slice Try.underlying26 (hval 0 26 v0 rfl rfl)
  obtain ⟨gb, m, cb, rfl⟩ := okWide_slice Try.underlying26 (hval 1 26 v1 rfl rfl)
  obtain ⟨x0, x1, rfl⟩ := open_point (hval 2 23 v2 rfl rfl) h2
  obtain ⟨zl, hl⟩ := open_list h0
  obtain ⟨zm, hm⟩ := open_list h1
  clear hA0 hval0
  simp only [List.append_nil] at hW'
  have hlt : ∀ x ∈ p0 ++ (p1 ++ p2), x.block < W.heap.size := fun x hx => by simpa using hW'.lt x hx
  have fin : Calls Try.prog 4 #[.slice ga n ca, .slice gb m cb, .agg #[.int .u32 x0, .int .u32 x1]] W fun e W' => e = .returned (.bool true) ∧ Below W.heap.size W W' := by
    by_cases hlong : 70 < n ∨ 70 < m
    · exact polys_long W ga gb n m ca cb x0 x1 hlong
    · exact polys_walk W ga gb n m ca cb zl zm x0 x1 hl hm (by omega) (by omega)
  refine fin.mono fun e W' ⟨he, hb⟩ => ?_
  subst he
  have harg0 := Below.trod laidOut16 (by kernel_rfl) (of_decide_eq_true (by kernel_rfl)) h0 hb (fun x hx => hlt x (List.mem_append.2 (.inl hx)))
  have harg1 := Below.trod laidOut16 (by kernel_rfl) (of_decide_eq_true (by kernel_rfl)) h1 hb (fun x hx => hlt x (List.mem_append.2 (.inr (List.mem_append.2 (.inl hx)))))
  have harg2 := Below.trod laidOut16 (by kernel_rfl) (of_decide_eq_true (by kernel_rfl)) h2 hb (fun x hx => hlt x (List.mem_append.2 (.inr (List.mem_append.2 (.inr hx)))))
  refine ⟨_, rfl, _, _, _, [], _, [], hW', ?_, trodAll_cons_mk harg0 (trodAll_cons_mk harg1 (trodAll_cons_mk harg2 trodAll_mk0)), rfl, hb.frame _, fun h => by cases h⟩
  exact trodAll_mk1 (shut_bool Try.underlying4 _)

theorem numericPolynomials_said : Rows.NumericPolynomialsSaid :=
  OpenClaim.holds_of_wide 4 Try.f4 rfl rfl rfl rfl rfl rfl rfl ⟨rfl, rfl, rfl, rfl, rfl⟩ rfl rfl rfl rfl rfl (by kernel_rfl) Try.func4 (by kernel_rfl)
    (of_decide_eq_true (by kernel_rfl)) (by unfold Func.isWrapper; first | (rw [if_pos (by decide +kernel)]; kernel_rfl) | (rw [if_neg (by decide +kernel)]; exact ⟨rfl, rfl⟩))
    (fun os started H enc _ => numericPolynomials_lifted os started H enc)
#print axioms numericPolynomials_said
end Go.Proofs.Ytmhfdjognikilaa
