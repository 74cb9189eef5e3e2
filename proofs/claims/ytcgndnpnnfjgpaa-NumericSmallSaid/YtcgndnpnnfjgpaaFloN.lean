/- Layer 16, part N. -/
import Derived.Test.YtcgndnpnnfjgpaaFloM
namespace Go.Proofs.Ytcgndnpnnfjgpaa
open Go.RowKit Go.Shelf

/-- How many operations have not come up yet. -/
def left (ops : Array Oper) (listed : Array Bool) : Nat := ((List.range ops.size).filter fun i => !listed.getD i true).length

theorem left_zero {md : Region.Mode} {ops : Array Oper} {listed : Array Bool} (h : left ops listed = 0) : Region.ready md ops listed = [] := by
  have h0 : (List.range ops.size).filter (fun i => !listed.getD i true) = [] := List.length_eq_zero_iff.1 h
  apply List.eq_nil_iff_forall_not_mem.2
  intro i hi
  obtain ⟨h1, o, ho, -⟩ := mem_ready.1 hi
  have hlt : i < ops.size := (Array.getElem?_eq_some_iff.1 ho).1
  have : i ∈ (List.range ops.size).filter (fun i => !listed.getD i true) := List.mem_filter.2 ⟨List.mem_range.2 hlt, by simp [h1]⟩
  rw [h0] at this
  cases this

theorem filter_length_lt {α : Type} (l : List α) (p q : α → Bool) (hpq : ∀ x ∈ l, q x = true → p x = true) (x : α) (hx : x ∈ l) (hp : p x = true) (hq : q x = false) : (l.filter q).length < (l.filter p).length := by
  induction l with
  | nil => cases hx
  | cons y ys ih =>
    have hle : (ys.filter q).length ≤ (ys.filter p).length := by
      clear ih hx
      induction ys with
      | nil => simp
      | cons z zs ih2 =>
        have := ih2 fun x hx => hpq x (by rcases List.mem_cons.1 hx with rfl | h <;> simp [*])
        have hz := hpq z (by simp)
        cases hqz : q z <;> cases hpz : p z <;> simp_all <;> omega
    rcases List.mem_cons.1 hx with rfl | hx
    · simp [hp, hq]; omega
    · have := ih (fun x hx => hpq x (List.mem_cons_of_mem _ hx)) hx
      have hy := hpq y (by simp)
      cases hqy : q y <;> cases hpy : p y <;> simp_all <;> omega

theorem listed_set {listed : Array Bool} {i j : Nat} (h : (listed.setIfInBounds i true).getD j true = false) : listed.getD j true = false ∧ j ≠ i := by
  have hs : ∀ (x : Array Bool) (k : Nat), x.getD k true = (x[k]?).getD true := fun x k => by simp
  rw [hs, Array.getElem?_setIfInBounds] at h
  rw [hs]
  split at h
  · split at h <;> simp at h
  · exact ⟨h, by omega⟩

theorem listed_get {listed : Array Bool} {i j : Nat} (h : (listed.setIfInBounds i true).getD j false = true) : listed.getD j false = true ∨ j = i := by
  have hs : ∀ (x : Array Bool) (k : Nat), x.getD k false = (x[k]?).getD false := fun x k => by simp
  rw [hs, Array.getElem?_setIfInBounds] at h
  rw [hs]
  split at h
  · rename_i e; exact .inr e.symm
  · exact .inl h

theorem left_lt {md : Region.Mode} {ops : Array Oper} {listed : Array Bool} {i : Nat} (h : i ∈ Region.ready md ops listed) : left ops (listed.setIfInBounds i true) < left ops listed := by
  obtain ⟨h1, o, ho, -⟩ := mem_ready.1 h
  have hlt : i < ops.size := (Array.getElem?_eq_some_iff.1 ho).1
  refine filter_length_lt _ _ _ (fun j _ hj => ?_) i (List.mem_range.2 hlt) (by simp [h1]) ?_
  · have hj' : (listed.setIfInBounds i true).getD j true = false := by simpa using hj
    rw [(listed_set hj').1]; rfl
  · cases hb : (listed.setIfInBounds i true).getD i true with
    | true => rfl
    | false => exact absurd rfl (listed_set hb).2

/-- A region whose every operation keeps what has been shown of those that came up. -/
theorem wpAny_by {P : Program} {md : Region.Mode} {ops : Array Oper} {Q : Exit → Act → World → Prop} (I : Array Bool → Act → World → Prop)
    (hstep : ∀ listed a w i, I listed a w → i ∈ Region.ready md ops listed → wpOp P ops Q i (I (listed.setIfInBounds i true)) a w)
    (hdone : ∀ listed a w, I listed a w → Region.ready md ops listed = [] → Q .normal a w) :
    ∀ (fuel : Nat) (listed : Array Bool) (a : Act) (w : World), left ops listed ≤ fuel → I listed a w → wpAny P md ops Q fuel listed a w
  | 0, listed, a, w, hl, hI => ⟨left_zero (by omega), hdone _ _ _ hI (left_zero (by omega))⟩
  | fuel + 1, listed, a, w, hl, hI => ⟨fun hr => hdone _ _ _ hI hr, fun i hi => wpOp_mono (fun a' w' h' => wpAny_by I hstep hdone fuel _ a' w' (by have := left_lt hi; omega) h') (hstep _ _ _ _ hI hi)⟩

theorem op_value {P : Program} {ops : Array Oper} {Q : Exit → Act → World → Prop} {i : Nat} {K : Act → World → Prop} {a : Act} {w w' : World} {o : Oper} (ho : ops[i]? = some o) (hg : o.guard = none) (v : Value)
    (hr : (execOp a.eval o).run P w = .ok (.value v) w') (hK : K (a.put o.dst v) w') : wpOp P ops Q i K a w :=
  wpOp_step ho fun K' hK' => by
    rw [if_pos (by simp [Region.wanted, hg])]
    simp only [Oper.wp, hr, Oper.upon]
    exact hK' _ _ hK

theorem op_call {P : Program} {ops : Array Oper} {Q : Exit → Act → World → Prop} {i : Nat} {K : Act → World → Prop} {a : Act} {w : World} {o : Oper} (ho : ops[i]? = some o) (hg : o.guard = none) {f : FuncId} {args : Array Value}
    (hr : (execOp a.eval o).run P w = .ok (.enter f args) w) (hK : Calls P f args w fun e w' => ∃ v, e = .returned v ∧ K (a.put o.dst v) w') : wpOp P ops Q i K a w :=
  wpOp_step ho fun K' hK' => by
    rw [if_pos (by simp [Region.wanted, hg])]
    simp only [Oper.wp, hr, Oper.upon]
    refine hK.mono ?_
    rintro e w' ⟨v, rfl, h⟩
    exact hK' _ _ h

def opsOf (id : Nat) : Code → Option (Array Oper)
  | .region i ops _ => if i = id then some ops else none
  | .seq a b => (opsOf id a).orElse fun _ => opsOf id b
  | _ => none

noncomputable def ops1 : Array Oper := (Try.f6.body.bind (opsOf 1)).getD #[]

def shape (o : Oper) : Op × Option Tmp × Option (Nat × Bool) := (o.op, o.dst, o.guard)
theorem op_skip {P : Program} {ops : Array Oper} {Q : Exit → Act → World → Prop} {i : Nat} {K : Act → World → Prop} {a : Act} {w w' : World} {o : Oper} (ho : ops[i]? = some o) (hg : o.guard = none) (hd : o.dst = none)
    (hr : (execOp a.eval o).run P w = .ok .skip w') (hK : K a w') : wpOp P ops Q i K a w :=
  wpOp_step ho fun K' hK' => by
    rw [if_pos (by simp [Region.wanted, hg])]
    simp only [Oper.wp, hr, Oper.upon, hd]
    exact hK' _ _ hK

abbrev pair (a b : Int) : Value := .agg #[.int .i16 a, .int .i16 b]

/-- What the row of an operation says. -/
theorem row_of {i : Nat} {p : Op} {d : Option Tmp} (h : (ops1[i]?).map shape = some (p, d, none)) : ∃ o, ops1[i]? = some o ∧ o.op = p ∧ o.dst = d ∧ o.guard = none := by
  cases ho : ops1[i]? with
  | none => rw [ho] at h; cases h
  | some o =>
    rw [ho] at h
    simp only [Option.map_some, Option.some.injEq, shape, Prod.mk.injEq] at h
    exact ⟨o, rfl, h.1, h.2.1, h.2.2⟩

/-- Operation i waits for operation k. -/
def waits (i k : Nat) : Prop := (ops1[i]?).map (fun o => o.after.any fun e => Region.binds .any e && e.on == k) = some true
theorem waits.listed {i k : Nat} {listed : Array Bool} (h : waits i k) (hi : i ∈ Region.ready .any ops1 listed) : listed.getD k false = true := by
  obtain ⟨-, o, ho, hall⟩ := mem_ready.1 hi
  unfold waits at h
  rw [ho] at h
  simp only [Option.map_some, Option.some.injEq, Array.any_eq_true, Bool.and_eq_true, beq_iff_eq] at h
  obtain ⟨m, hm, hb, he⟩ := h
  rw [← he]
  exact hall _ (Array.getElem_mem hm) hb

def three (p : Nat → Prop) : Prop := p 0 ∧ p 1 ∧ p 2
theorem three.at {p : Nat → Prop} (h : three p) {j : Nat} (hj : j < 3) : p j := by
  have : j = 0 ∨ j = 1 ∨ j = 2 := by omega
  rcases this with rfl | rfl | rfl
  · exact h.1
  · exact h.2.1
  · exact h.2.2

theorem rows0 : three fun j => (ops1[7 * j]?).map shape = some (.indexAddr 64 (.tmp (4 + j)) (.const (.int .i64 0)), some (20 + 7 * j), none) := ⟨by show _ = _; kernel_rfl, by show _ = _; kernel_rfl, by show _ = _; kernel_rfl⟩
theorem rows1 : three fun j => (ops1[7 * j + 1]?).map shape = some (.load 63 (.tmp (20 + 7 * j)), some (20 + 7 * j + 1), none) := ⟨by show _ = _; kernel_rfl, by show _ = _; kernel_rfl, by show _ = _; kernel_rfl⟩
theorem rows2 : three fun j => (ops1[7 * j + 2]?).map shape = some (.call { callee := .value (.func 40), args := #[.tmp (20 + 7 * j + 1)], argTypes := #[63] }, some (20 + 7 * j + 2), none) := ⟨by show _ = _; kernel_rfl, by show _ = _; kernel_rfl, by show _ = _; kernel_rfl⟩
theorem rows3 : three fun j => (ops1[7 * j + 3]?).map shape = some (.indexAddr 64 (.tmp (4 + j)) (.const (.int .i64 1)), some (20 + 7 * j + 3), none) := ⟨by show _ = _; kernel_rfl, by show _ = _; kernel_rfl, by show _ = _; kernel_rfl⟩
theorem rows4 : three fun j => (ops1[7 * j + 4]?).map shape = some (.load 63 (.tmp (20 + 7 * j + 3)), some (20 + 7 * j + 4), none) := ⟨by show _ = _; kernel_rfl, by show _ = _; kernel_rfl, by show _ = _; kernel_rfl⟩
theorem rows5 : three fun j => (ops1[7 * j + 5]?).map shape = some (.call { callee := .value (.func 40), args := #[.tmp (20 + 7 * j + 4)], argTypes := #[63] }, some (20 + 7 * j + 5), none) := ⟨by show _ = _; kernel_rfl, by show _ = _; kernel_rfl, by show _ = _; kernel_rfl⟩
theorem rows6 : three fun j => (ops1[7 * j + 6]?).map shape = some (.call { callee := .value (.func 39), args := #[.tmp (20 + 7 * j + 2), .tmp (20 + 7 * j + 5)], argTypes := #[3, 3] }, some (20 + 7 * j + 6), none) := ⟨by show _ = _; kernel_rfl, by show _ = _; kernel_rfl, by show _ = _; kernel_rfl⟩
theorem rows7 : three fun j => (ops1[21 + j]?).map shape = some (.alloc 32, some (9 + j), none) := ⟨by show _ = _; kernel_rfl, by show _ = _; kernel_rfl, by show _ = _; kernel_rfl⟩
theorem rows8 : three fun j => (ops1[24 + j]?).map shape = some (.store 32 (.tmp (9 + j)) (.tmp (20 + 7 * j + 6)), none, none) := ⟨by show _ = _; kernel_rfl, by show _ = _; kernel_rfl, by show _ = _; kernel_rfl⟩
theorem needs : (three fun j => waits (7 * j + 1) (7 * j)) ∧ (three fun j => waits (7 * j + 2) (7 * j + 1)) ∧ (three fun j => waits (7 * j + 4) (7 * j + 3)) ∧ (three fun j => waits (7 * j + 5) (7 * j + 4)) ∧
    (three fun j => waits (7 * j + 6) (7 * j + 2)) ∧ (three fun j => waits (7 * j + 6) (7 * j + 5)) ∧ (three fun j => waits (24 + j) (21 + j)) ∧ (three fun j => waits (24 + j) (7 * j + 6)) := by
  have k : ∀ {i k : Nat}, (ops1[i]?).map (fun o => o.after.any fun e => Region.binds .any e && e.on == k) = some true → waits i k := fun h => h
  exact ⟨⟨k (by kernel_rfl), k (by kernel_rfl), k (by kernel_rfl)⟩, ⟨k (by kernel_rfl), k (by kernel_rfl), k (by kernel_rfl)⟩, ⟨k (by kernel_rfl), k (by kernel_rfl), k (by kernel_rfl)⟩, ⟨k (by kernel_rfl), k (by kernel_rfl), k (by kernel_rfl)⟩,
    ⟨k (by kernel_rfl), k (by kernel_rfl), k (by kernel_rfl)⟩, ⟨k (by kernel_rfl), k (by kernel_rfl), k (by kernel_rfl)⟩, ⟨k (by kernel_rfl), k (by kernel_rfl), k (by kernel_rfl)⟩, ⟨k (by kernel_rfl), k (by kernel_rfl), k (by kernel_rfl)⟩⟩

/-- The state within the region. -/
def T (B : Nat) (x y : Nat → Int) (k : Int) (u : Nat → Value) : Act := { tmps := #[pair (x 0) (y 0), pair (x 1) (y 1), pair (x 2) (y 2), .int .u8 k, .pointer (some ⟨B, 0, none⟩), .pointer (some ⟨B + 1, 0, none⟩), .pointer (some ⟨B + 2, 0, none⟩), undef, .bool false, u 9, u 10, u 11, undef, undef, undef, undef, undef, undef, undef, undef, u 20, u 21, u 22, u 23, u 24, u 25, u 26, u 27, u 28, u 29, u 30, u 31, u 32, u 33, u 34, u 35, u 36, u 37, u 38, u 39, u 40, undef, undef, undef, undef, undef, undef, undef, undef, undef, undef, undef, undef, undef, undef, undef, undef, undef, undef, undef, undef, undef, undef, undef, undef, undef, undef, undef, undef, undef, undef, undef, undef, undef, undef, undef, undef, undef, undef, undef, undef, undef, undef, undef, undef, undef, undef, undef, undef, undef, undef, undef, undef, undef, undef, undef, undef, undef, undef, undef, undef, undef, undef, undef, undef, undef, undef, undef, undef, undef, undef, undef, undef, undef, undef, undef, undef, undef, undef, undef, undef, undef, undef, undef, undef, undef, undef, undef, undef, undef, undef, undef, undef, undef, undef, undef, undef, undef, undef, undef, undef, undef, undef, undef, undef, undef, undef, undef, undef, undef, undef, undef, undef, undef, undef, undef, undef, undef, undef, undef, undef, undef, undef, undef, undef, undef, undef], defers := [] }
def upd (u : Nat → Value) (d : Nat) (v : Value) : Nat → Value := fun j => if j = d then v else u j
def slot (d : Nat) : Prop := d ∈ [9, 10, 11, 20, 21, 22, 23, 24, 25, 26, 27, 28, 29, 30, 31, 32, 33, 34, 35, 36, 37, 38, 39, 40]
set_option maxRecDepth 100000 in
theorem T_eval {B : Nat} {x y : Nat → Int} {k : Int} {u : Nat → Value} {d : Nat} (hd : slot d) : (T B x y k u).eval (.tmp d) = u d := by
  simp only [slot, List.mem_cons, List.not_mem_nil, or_false] at hd
  rcases hd with rfl | rfl | rfl | rfl | rfl | rfl | rfl | rfl | rfl | rfl | rfl | rfl | rfl | rfl | rfl | rfl | rfl | rfl | rfl | rfl | rfl | rfl | rfl | rfl <;> rfl
set_option maxRecDepth 100000 in
theorem T_put {B : Nat} {x y : Nat → Int} {k : Int} {u : Nat → Value} {d : Nat} (hd : slot d) (v : Value) : (T B x y k u).put (some d) v = T B x y k (upd u d v) := by
  simp only [slot, List.mem_cons, List.not_mem_nil, or_false] at hd
  rcases hd with rfl | rfl | rfl | rfl | rfl | rfl | rfl | rfl | rfl | rfl | rfl | rfl | rfl | rfl | rfl | rfl | rfl | rfl | rfl | rfl | rfl | rfl | rfl | rfl <;> rfl
set_option maxRecDepth 100000 in
theorem T_box {B : Nat} {x y : Nat → Int} {k : Int} {u : Nat → Value} : three fun j => (T B x y k u).eval (.tmp (4 + j)) = .pointer (some ⟨B + j, 0, none⟩) := ⟨rfl, rfl, rfl⟩

end Go.Proofs.Ytcgndnpnnfjgpaa
