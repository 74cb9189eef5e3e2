/- Layer 16, part Q. -/
import Derived.Test.YtcgndnpnnfjgpaaFloP
namespace Go.Proofs.Ytcgndnpnnfjgpaa
open Go.RowKit Go.Shelf

noncomputable def ops6 : Array Oper := (Try.f6.body.bind (opsOf 6)).getD #[]

/-- The letters of the law's last region. -/
structure Cx where
  W0 : World
  pa : Nat
  ar : Nat
  ai : Nat
  pb : Nat
  br : Nat
  bi : Nat
  pc : Nat
  cr : Nat
  ci : Nat
  pp : Nat
  pr : Nat
  pi : Nat
  px : Nat
  re : Nat
  im : Nat
  j : Nat
  n0 : Int
  n1 : Int
  m0 : Int
  m1 : Int
  q0 : Int
  q1 : Int

abbrev Ten (W0 : World) (pa ar ai pb br bi pc cr ci pp pr pi px re im : Nat) (W : World) : Prop :=
  Below W0.heap.size W0 W ∧ W.cell? ⟨pa, 0, none⟩ = some (.int .u32 ar) ∧ W.cell? ⟨pa, 1, none⟩ = some (.int .u32 ai) ∧ W.cell? ⟨pb, 0, none⟩ = some (.int .u32 br) ∧ W.cell? ⟨pb, 1, none⟩ = some (.int .u32 bi) ∧
  W.cell? ⟨pc, 0, none⟩ = some (.int .u32 cr) ∧ W.cell? ⟨pc, 1, none⟩ = some (.int .u32 ci) ∧ W.cell? ⟨pp, 0, none⟩ = some (.int .u32 pr) ∧ W.cell? ⟨pp, 1, none⟩ = some (.int .u32 pi) ∧
  W.cell? ⟨px, 0, none⟩ = some (.int .u32 re) ∧ W.cell? ⟨px, 1, none⟩ = some (.int .u32 im)
theorem keeps {W W' : World} {b o : Nat} {v : Value} (hB : Below W.heap.size W W') (h : W.cell? ⟨b, o, none⟩ = some v) : W'.cell? ⟨b, o, none⟩ = some v := (hB.cell (p := ⟨b, o, none⟩) (cell_lt h)).trans h
theorem Ten.keep {W0 : World} {pa ar ai pb br bi pc cr ci pp pr pi px re im : Nat} {W W' : World} (hB : Below W.heap.size W W') (h : Ten W0 pa ar ai pb br bi pc cr ci pp pr pi px re im W) : Ten W0 pa ar ai pb br bi pc cr ci pp pr pi px re im W' := by
  obtain ⟨h0, h1, h2, h3, h4, h5, h6, h7, h8, h9, h10⟩ := h
  exact ⟨h0.trans (hB.mono h0.size), keeps hB h1, keeps hB h2, keeps hB h3, keeps hB h4, keeps hB h5, keeps hB h6, keeps hB h7, keeps hB h8, keeps hB h9, keeps hB h10⟩

abbrev Cx.ten (c : Cx) (W : World) : Prop := Ten c.W0 c.pa c.ar c.ai c.pb c.br c.bi c.pc c.cr c.ci c.pp c.pr c.pi c.px c.re c.im W

/-- What is known of the letters. -/
structure Cx.Ok (c : Cx) : Prop where
  var : Val c.ar c.n0
  vai : Val c.ai c.n1
  vbr : Val c.br c.m0
  vbi : Val c.bi c.m1
  vcr : Val c.cr c.q0
  vci : Val c.ci c.q1
  vpr : Val c.pr (2 ^ c.j)
  vpi : Val c.pi 0
  vre : Val c.re (c.n0 * c.n0 + c.n1 * c.n1)
  vim : Val c.im 0
  hq : (FloatKind.f32.format.order c.im 0 == some .eq) = true
  hj : c.j ≤ 7
  l0 : c.n0.natAbs ≤ 1000
  l1 : c.n1.natAbs ≤ 1000
  bd : (-1000 ≤ c.n0 ∧ c.n0 ≤ 1000) ∧ (-1000 ≤ c.n1 ∧ c.n1 ≤ 1000) ∧ (-1000 ≤ c.m0 ∧ c.m0 ≤ 1000) ∧ (-1000 ≤ c.m1 ∧ c.m1 ≤ 1000) ∧ (-1000 ≤ c.q0 ∧ c.q0 ≤ 1000) ∧ (-1000 ≤ c.q1 ∧ c.q1 ≤ 1000) ∧
    (-1000000 ≤ c.n0 * c.m0 ∧ c.n0 * c.m0 ≤ 1000000) ∧ (-1000000 ≤ c.n1 * c.m1 ∧ c.n1 * c.m1 ≤ 1000000) ∧ (-1000000 ≤ c.n0 * c.m1 ∧ c.n0 * c.m1 ≤ 1000000) ∧ (-1000000 ≤ c.n1 * c.m0 ∧ c.n1 * c.m0 ≤ 1000000) ∧
    (-1000000 ≤ c.n0 * c.q0 ∧ c.n0 * c.q0 ≤ 1000000) ∧ (-1000000 ≤ c.n1 * c.q1 ∧ c.n1 * c.q1 ≤ 1000000) ∧ (-1000000 ≤ c.n0 * c.q1 ∧ c.n0 * c.q1 ≤ 1000000) ∧ (-1000000 ≤ c.n1 * c.q0 ∧ c.n1 * c.q0 ≤ 1000000) ∧
    (-1000000 ≤ c.n0 * c.n0 ∧ c.n0 * c.n0 ≤ 1000000) ∧ (-1000000 ≤ c.n1 * c.n1 ∧ c.n1 * c.n1 ≤ 1000000) ∧
    (-2000000 ≤ c.n0 * (c.m0 + c.q0) ∧ c.n0 * (c.m0 + c.q0) ≤ 2000000) ∧ (-2000000 ≤ c.n1 * (c.m1 + c.q1) ∧ c.n1 * (c.m1 + c.q1) ≤ 2000000) ∧ (-2000000 ≤ c.n0 * (c.m1 + c.q1) ∧ c.n0 * (c.m1 + c.q1) ≤ 2000000) ∧ (-2000000 ≤ c.n1 * (c.m0 + c.q0) ∧ c.n1 * (c.m0 + c.q0) ≤ 2000000) ∧
    (-128000 ≤ c.n0 * (2 ^ c.j) ∧ c.n0 * (2 ^ c.j) ≤ 128000) ∧ (-128000 ≤ c.n1 * (2 ^ c.j) ∧ c.n1 * (2 ^ c.j) ≤ 128000)

inductive Item where
  | num (n m : Int)
  | val (v : Value)
def Holds : Item → Value → Prop
  | .num n m, v => ∃ a b, Val a n ∧ Val b m ∧ v = numV a b
  | .val x, v => v = x

def items (c : Cx) : List Item := [.num c.n0 c.n1,
  .num c.m0 c.m1,
  .num (c.n0 + c.m0) (c.n1 + c.m1),
  .val (.int .i64 c.n0),
  .val (.int .i64 c.m0),
  .val (.int .i64 (c.n0 + c.m0)),
  .val (.int .i64 c.n1),
  .val (.int .i64 c.m1),
  .val (.int .i64 (c.n1 + c.m1)),
  .num (c.n0 + c.m0) (c.n1 + c.m1),
  .val (.bool true),
  .val (.bool true),
  .num c.n0 c.n1,
  .num c.m0 c.m1,
  .num (c.n0 - c.m0) (c.n1 - c.m1),
  .val (.int .i64 c.n0),
  .val (.int .i64 c.m0),
  .val (.int .i64 (c.n0 - c.m0)),
  .val (.int .i64 c.n1),
  .val (.int .i64 c.m1),
  .val (.int .i64 (c.n1 - c.m1)),
  .num (c.n0 - c.m0) (c.n1 - c.m1),
  .val (.bool true),
  .val (.bool true),
  .val (.bool true),
  .num c.n0 c.n1,
  .num c.m0 c.m1,
  .num (c.n0 * c.m0 - c.n1 * c.m1) (c.n0 * c.m1 + c.n1 * c.m0),
  .val (.int .i64 c.n0),
  .val (.int .i64 c.m0),
  .val (.int .i64 (c.n0 * c.m0)),
  .val (.int .i64 c.n1),
  .val (.int .i64 c.m1),
  .val (.int .i64 (c.n1 * c.m1)),
  .val (.int .i64 ((c.n0 * c.m0) - (c.n1 * c.m1))),
  .val (.int .i64 c.n0),
  .val (.int .i64 c.m1),
  .val (.int .i64 (c.n0 * c.m1)),
  .val (.int .i64 c.n1),
  .val (.int .i64 c.m0),
  .val (.int .i64 (c.n1 * c.m0)),
  .val (.int .i64 ((c.n0 * c.m1) + (c.n1 * c.m0))),
  .num ((c.n0 * c.m0) - (c.n1 * c.m1)) ((c.n0 * c.m1) + (c.n1 * c.m0)),
  .val (.bool true),
  .val (.bool true),
  .val (.bool true),
  .num c.n0 c.n1,
  .num c.m0 c.m1,
  .num (c.n0 + c.m0) (c.n1 + c.m1),
  .num c.q0 c.q1,
  .num ((c.n0 + c.m0) + c.q0) ((c.n1 + c.m1) + c.q1),
  .num c.n0 c.n1,
  .num c.m0 c.m1,
  .num c.q0 c.q1,
  .num (c.m0 + c.q0) (c.m1 + c.q1),
  .num (c.n0 + (c.m0 + c.q0)) (c.n1 + (c.m1 + c.q1)),
  .val (.bool true),
  .val (.bool true),
  .val (.bool true),
  .num c.n0 c.n1,
  .num c.m0 c.m1,
  .num c.q0 c.q1,
  .num (c.m0 + c.q0) (c.m1 + c.q1),
  .num (c.n0 * (c.m0 + c.q0) - c.n1 * (c.m1 + c.q1)) (c.n0 * (c.m1 + c.q1) + c.n1 * (c.m0 + c.q0)),
  .num c.n0 c.n1,
  .num c.m0 c.m1,
  .num (c.n0 * c.m0 - c.n1 * c.m1) (c.n0 * c.m1 + c.n1 * c.m0),
  .num c.n0 c.n1,
  .num c.q0 c.q1,
  .num (c.n0 * c.q0 - c.n1 * c.q1) (c.n0 * c.q1 + c.n1 * c.q0),
  .num ((c.n0 * c.m0 - c.n1 * c.m1) + (c.n0 * c.q0 - c.n1 * c.q1)) ((c.n0 * c.m1 + c.n1 * c.m0) + (c.n0 * c.q1 + c.n1 * c.q0)),
  .val (.bool true),
  .val (.bool true),
  .val (.bool true),
  .val (.float .f32 c.im),
  .val (.bool true),
  .val (.bool true),
  .val (.bool true),
  .num (c.n0 * c.n0 + c.n1 * c.n1) 0,
  .val (.int .i64 c.n0),
  .val (.int .i64 c.n0),
  .val (.int .i64 (c.n0 * c.n0)),
  .val (.int .i64 c.n1),
  .val (.int .i64 c.n1),
  .val (.int .i64 (c.n1 * c.n1)),
  .val (.int .i64 ((c.n0 * c.n0) + (c.n1 * c.n1))),
  .num ((c.n0 * c.n0) + (c.n1 * c.n1)) 0,
  .val (.bool true),
  .val (.bool true),
  .val (.bool true),
  .num c.n0 c.n1,
  .num (2 ^ c.j) 0,
  .num (c.n0 * (2 ^ c.j) - c.n1 * 0) (c.n0 * 0 + c.n1 * (2 ^ c.j)),
  .num (2 ^ c.j) 0,
  .num c.n0 c.n1,
  .num c.n0 c.n1,
  .val (.bool true),
  .val (.bool true),
  .val (.bool true),
  .val (.bool true),
  .val (.bool true)]
def item (c : Cx) (i : Nat) : Item := (items c).getD i (.val undef)

def V (a : Act) (d : Nat) : Value := a.tmps.getD d undef
theorem V_put {a : Act} {d e : Nat} {v : Value} (hd : d < a.tmps.size) : V (a.put (some d) v) e = if e = d then v else V a e := by
  have hs : ∀ (x : Array Value) (k : Nat), x.getD k undef = (x[k]?).getD undef := fun x k => by simp
  unfold V Act.put
  simp only
  rw [hs, Array.getElem?_setIfInBounds, hs]
  by_cases h : e = d
  · subst h; simp [hd]
  · rw [if_neg (fun x => h x.symm), if_neg h]

def based (c : Cx) (d : Nat) : Option Value :=
  if d = 9 then some (.pointer (some ⟨c.pa, 0, none⟩)) else if d = 10 then some (.pointer (some ⟨c.pb, 0, none⟩)) else if d = 11 then some (.pointer (some ⟨c.pc, 0, none⟩))
  else if d = 12 then some (.int .i64 c.n0) else if d = 13 then some (.int .i64 c.n1) else if d = 14 then some (.int .i64 c.m0) else if d = 15 then some (.int .i64 c.m1)
  else if d = 16 then some (.pointer (some ⟨c.pp, 0, none⟩)) else if d = 17 then some (.pointer (some ⟨c.px, 0, none⟩)) else if d = 19 then some (.float .f32 c.im) else none
theorem based_low {c : Cx} {d : Nat} {v : Value} (h : based c d = some v) : 9 ≤ d ∧ d ≤ 19 := by
  unfold based at h
  repeat' split at h
  all_goals first | omega | cases h

structure Inv6 (c : Cx) (listed : Array Bool) (a : Act) (W : World) : Prop where
  size : a.tmps.size = 167
  defers : a.defers = []
  base : ∀ d v, based c d = some v → V a d = v
  ten : c.ten W
  item : ∀ i, i < 101 → On listed i → Holds (item c i) (V a (66 + i))
  last : On listed 101 → V a 8 = .bool true

theorem Inv6.put {c : Cx} {listed : Array Bool} {a : Act} {W W' : World} {i : Nat} {v : Value} (hi : i < 101) (hB : Below W.heap.size W W') (hv : Holds (Go.Proofs.Ytcgndnpnnfjgpaa.item c i) v) (h : Inv6 c listed a W) :
    Inv6 c (listed.setIfInBounds i true) (a.put (some (66 + i)) v) W' := by
  have hs := h.size
  have hp : ∀ e, V (a.put (some (66 + i)) v) e = if e = 66 + i then v else V a e := fun e => V_put (by omega)
  refine ⟨by simp [Act.put, hs], h.defers, fun d x hd => ?_, h.ten.keep hB, fun k hk ho => ?_, fun ho => ?_⟩
  · have := based_low hd
    rw [hp, if_neg (by omega)]; exact h.base d x hd
  · rw [hp]
    by_cases e : k = i
    · subst e; rw [if_pos rfl]; exact hv
    · rw [if_neg (by omega)]; exact h.item k hk ((listed_get ho).resolve_right e)
  · rw [hp, if_neg (by omega)]; exact h.last ((listed_get ho).resolve_right (by omega))

/-- Operation i waits for operation k. -/
def Waits (i k : Nat) : Prop := (ops6[i]?).map (fun o => o.after.any fun e => Region.binds .any e && e.on == k) = some true
theorem Waits.on {i k : Nat} {listed : Array Bool} (h : Waits i k) (hi : i ∈ Region.ready .any ops6 listed) : On listed k := by
  obtain ⟨-, o, ho, hall⟩ := mem_ready.1 hi
  unfold Waits at h
  rw [ho] at h
  simp only [Option.map_some, Option.some.injEq, Array.any_eq_true, Bool.and_eq_true, beq_iff_eq] at h
  obtain ⟨m, hm, hb, he⟩ := h
  show listed.getD k false = true
  rw [← he]
  exact hall _ (Array.getElem_mem hm) hb
theorem waits_of {i k : Nat} (h : (ops6[i]?).map (fun o => o.after.any fun e => Region.binds .any e && e.on == k) = some true) : Waits i k := h

theorem row_of6 {i : Nat} {p : Op} {d : Option Tmp} {g : Option (Nat × Bool)} (h : (ops6[i]?).map shape = some (p, d, g)) : ∃ o, ops6[i]? = some o ∧ o.op = p ∧ o.dst = d ∧ o.guard = g := by
  cases ho : ops6[i]? with
  | none => rw [ho] at h; cases h
  | some o =>
    rw [ho] at h
    simp only [Option.map_some, Option.some.injEq, shape, Prod.mk.injEq] at h
    exact ⟨o, rfl, h.1, h.2.1, h.2.2⟩

/-- The guard lets the operation be done. -/
def Gok (a : Act) (g : Option (Nat × Bool)) : Prop := ∀ o : Oper, o.guard = g → Region.wanted o (yielded ops6 a.tmps) = true
theorem gok_none {a : Act} : Gok a none := fun o h => by simp [Region.wanted, h]
theorem gok_some {c : Cx} {listed : Array Bool} {a : Act} {W : World} {g : Nat} (hI : Inv6 c listed a W) (hg : g < 101) (hd : (ops6[g]?).map (·.dst) = some (some (66 + g))) (ho : On listed g) (hit : item c g = .val (.bool true)) : Gok a (some (g, true)) := by
  intro o h
  have hv := hI.item g hg ho
  rw [hit] at hv
  have hv' : V a (66 + g) = .bool true := hv
  have hlt : 66 + g < a.tmps.size := by have := hI.size; omega
  have hd' : (ops6[g]?).bind (·.dst) = some (66 + g) := by
    cases hx : ops6[g]? with
    | none => rw [hx] at hd; cases hd
    | some x => rw [hx] at hd; simpa using hd
  have ht : a.tmps[66 + g]? = some (.bool true) := by
    have : V a (66 + g) = (a.tmps[66 + g]?).getD undef := by unfold V; simp
    rw [this] at hv'
    rw [Array.getElem?_eq_getElem hlt] at hv' ⊢
    simpa using hv'
  simp [Region.wanted, h, yielded, hd', ht]

section
variable {Q : Exit → Act → World → Prop} {c : Cx} {listed : Array Bool} {a : Act} {W : World} {i : Nat} {g : Option (Nat × Bool)} {p : Op}

theorem go_value {v : Value} (row : (ops6[i]?).map shape = some (p, some (66 + i), g)) (hlt : i < 101) (hg : Gok a g) (hI : Inv6 c listed a W) (hr : ∀ o : Oper, o.op = p → (execOp a.eval o).run Try.prog W = .ok (.value v) W) (hv : Holds (item c i) v) :
    wpOp Try.prog ops6 Q i (Inv6 c (listed.setIfInBounds i true)) a W := by
  obtain ⟨o, ho, hp, hd, hgo⟩ := row_of6 row
  refine wpOp_step ho fun K' hK' => ?_
  rw [if_pos (hg o hgo)]
  simp only [Oper.wp, hr o hp, Oper.upon, hd]
  exact hK' _ _ (hI.put hlt (Below.refl _ _) hv)
theorem go_call {f : FuncId} {args : Array Value} (row : (ops6[i]?).map shape = some (p, some (66 + i), g)) (hlt : i < 101) (hg : Gok a g) (hI : Inv6 c listed a W) (hr : ∀ o : Oper, o.op = p → (execOp a.eval o).run Try.prog W = .ok (.enter f args) W)
    (hc : Calls Try.prog f args W fun e W' => ∃ v, e = .returned v ∧ Holds (item c i) v ∧ Below W.heap.size W W') :
    wpOp Try.prog ops6 Q i (Inv6 c (listed.setIfInBounds i true)) a W := by
  obtain ⟨o, ho, hp, hd, hgo⟩ := row_of6 row
  refine wpOp_step ho fun K' hK' => ?_
  rw [if_pos (hg o hgo)]
  simp only [Oper.wp, hr o hp, Oper.upon]
  refine hc.mono ?_
  rintro e W' ⟨v, rfl, hv, hB⟩
  rw [hd]
  exact hK' _ _ (hI.put hlt hB hv)

theorem load_num (b x y : Nat) (h0 : W.cell? ⟨b, 0, none⟩ = some (.int .u32 x)) (h1 : W.cell? ⟨b, 1, none⟩ = some (.int .u32 y)) : (Instr.loadAt 32 (.pointer (some ⟨b, 0, none⟩))).run Try.prog W = .ok (numV x y) W := by
  go_simp

theorem k_load {s b x y : Nat} {n m : Int} (row : (ops6[i]?).map shape = some (.load 32 (.tmp s), some (66 + i), g)) (hlt : i < 101) (hg : Gok a g) (hI : Inv6 c listed a W) (hb : based c s = some (.pointer (some ⟨b, 0, none⟩)))
    (h0 : W.cell? ⟨b, 0, none⟩ = some (.int .u32 x)) (h1 : W.cell? ⟨b, 1, none⟩ = some (.int .u32 y)) (hx : Val x n) (hy : Val y m) (hit : item c i = .num n m) : wpOp Try.prog ops6 Q i (Inv6 c (listed.setIfInBounds i true)) a W := by
  refine go_value row hlt hg hI (v := numV x y) (fun o hp => ?_) (by rw [hit]; exact ⟨x, y, hx, hy, rfl⟩)
  have e : a.eval (.tmp s) = .pointer (some ⟨b, 0, none⟩) := hI.base s _ hb
  simp only [execOp, hp, e]
  rw [Sem.run_bind, load_num b x y h0 h1]
  rfl
theorem k_move {s : Nat} {v : Value} (row : (ops6[i]?).map shape = some (.move (.tmp s), some (66 + i), g)) (hlt : i < 101) (hg : Gok a g) (hI : Inv6 c listed a W) (hb : V a s = v) (hit : item c i = .val v) : wpOp Try.prog ops6 Q i (Inv6 c (listed.setIfInBounds i true)) a W := by
  refine go_value row hlt hg hI (v := v) (fun o hp => ?_) (by rw [hit]; rfl)
  have e : a.eval (.tmp s) = v := hb
  simp only [execOp, hp, e]
  rfl

theorem equalE {a b c d : Nat} {n m n' m' : Int} (ha : Val a n) (hb : Val b m) (hc : Val c n') (hd : Val d m') (h1 : n = n') (h2 : m = m') (w : World) : Gives 41 #[numV a b, numV c d] w (.bool true) := by
  subst h1; subst h2; exact equalV ha hb hc hd w
theorem divE {a b c d : Nat} {n m x y : Int} {j : Nat} (hj : j ≤ 7) (hn : n.natAbs ≤ 1000) (hm : m.natAbs ≤ 1000) (ha : Val a x) (hb : Val b y) (hc : Val c (2 ^ j)) (hd : Val d 0) (h1 : x = n * 2 ^ j) (h2 : y = m * 2 ^ j) (w : World) : Made 16 #[numV a b, numV c d] w n m := by
  subst h1; subst h2; exact divV hj hn hm ha hb hc hd w

theorem calls2 {f : FuncId} {x y : Operand} {t u : TypeId} {ρ : Operand → Value} (o : Oper) (h : o.op = .call { callee := .value (.func f), args := #[x, y], argTypes := #[t, u] }) (hf : ρ (.func f) = .func (.func f) #[] #[]) (hc : ∀ (l : Array Value) (w : World), (callFunc f l).run Try.prog w = .ok (.enter f l) w) (W : World) : (execOp ρ o).run Try.prog W = .ok (.enter f #[ρ x, ρ y]) W := by
  simp only [execOp, h, resolve, hf]
  go_simp
theorem calls0 {f : FuncId} {ρ : Operand → Value} (o : Oper) (h : o.op = .call { callee := .value (.func f), args := #[], argTypes := #[] }) (hf : ρ (.func f) = .func (.func f) #[] #[]) (hc : ∀ (l : Array Value) (w : World), (callFunc f l).run Try.prog w = .ok (.enter f l) w) (W : World) : (execOp ρ o).run Try.prog W = .ok (.enter f #[]) W := by
  simp only [execOp, h, resolve, hf]
  go_simp

theorem run_add3 {x y : Operand} {n m : Int} {ρ : Operand → Value} (o : Oper) (h : o.op = .binOp .add 3 x y 3) (hx : ρ x = .int .i64 n) (hy : ρ y = .int .i64 m) (hb : IntKind.i64.wrap (n + m) = n + m) (W : World) : (execOp ρ o).run Try.prog W = .ok (.value (.int .i64 (n + m))) W := by
  simp only [execOp, h, hx, hy]
  go_simp
theorem k_add {x y : Nat} {n m : Int} (row : (ops6[i]?).map shape = some (.binOp .add 3 (.tmp x) (.tmp y) 3, some (66 + i), g)) (hlt : i < 101) (hg : Gok a g) (hI : Inv6 c listed a W) (hx : Holds (.val (.int .i64 n)) (V a x)) (hy : Holds (.val (.int .i64 m)) (V a y))
    (hb : -9000000 ≤ n + m ∧ n + m ≤ 9000000) (hit : item c i = .val (.int .i64 (n + m))) : wpOp Try.prog ops6 Q i (Inv6 c (listed.setIfInBounds i true)) a W :=
  go_value row hlt hg hI (fun o hp => run_add3 (ρ := a.eval) (n := n) (m := m) o hp hx hy (IntWalk.i64_in _ (by omega)) W) (by rw [hit]; rfl)
theorem run_sub3 {x y : Operand} {n m : Int} {ρ : Operand → Value} (o : Oper) (h : o.op = .binOp .sub 3 x y 3) (hx : ρ x = .int .i64 n) (hy : ρ y = .int .i64 m) (hb : IntKind.i64.wrap (n - m) = n - m) (W : World) : (execOp ρ o).run Try.prog W = .ok (.value (.int .i64 (n - m))) W := by
  simp only [execOp, h, hx, hy]
  go_simp
theorem k_sub {x y : Nat} {n m : Int} (row : (ops6[i]?).map shape = some (.binOp .sub 3 (.tmp x) (.tmp y) 3, some (66 + i), g)) (hlt : i < 101) (hg : Gok a g) (hI : Inv6 c listed a W) (hx : Holds (.val (.int .i64 n)) (V a x)) (hy : Holds (.val (.int .i64 m)) (V a y))
    (hb : -9000000 ≤ n - m ∧ n - m ≤ 9000000) (hit : item c i = .val (.int .i64 (n - m))) : wpOp Try.prog ops6 Q i (Inv6 c (listed.setIfInBounds i true)) a W :=
  go_value row hlt hg hI (fun o hp => run_sub3 (ρ := a.eval) (n := n) (m := m) o hp hx hy (IntWalk.i64_in _ (by omega)) W) (by rw [hit]; rfl)
theorem run_mul3 {x y : Operand} {n m : Int} {ρ : Operand → Value} (o : Oper) (h : o.op = .binOp .mul 3 x y 3) (hx : ρ x = .int .i64 n) (hy : ρ y = .int .i64 m) (hb : IntKind.i64.wrap (n * m) = n * m) (W : World) : (execOp ρ o).run Try.prog W = .ok (.value (.int .i64 (n * m))) W := by
  simp only [execOp, h, hx, hy]
  go_simp
theorem k_mul {x y : Nat} {n m : Int} (row : (ops6[i]?).map shape = some (.binOp .mul 3 (.tmp x) (.tmp y) 3, some (66 + i), g)) (hlt : i < 101) (hg : Gok a g) (hI : Inv6 c listed a W) (hx : Holds (.val (.int .i64 n)) (V a x)) (hy : Holds (.val (.int .i64 m)) (V a y))
    (hb : -9000000 ≤ n * m ∧ n * m ≤ 9000000) (hit : item c i = .val (.int .i64 (n * m))) : wpOp Try.prog ops6 Q i (Inv6 c (listed.setIfInBounds i true)) a W :=
  go_value row hlt hg hI (fun o hp => run_mul3 (ρ := a.eval) (n := n) (m := m) o hp hx hy (IntWalk.i64_in _ (by omega)) W) (by rw [hit]; rfl)
theorem run_eql {x : Operand} {b : Nat} {ρ : Operand → Value} (o : Oper) (h : o.op = .binOp .eql 29 x (.const (.float .f32 0)) 29) (hx : ρ x = .float .f32 b) (h0 : ρ (.const (.float .f32 0)) = .float .f32 0) (hq : (FloatKind.f32.format.order b 0 == some .eq) = true) (W : World) : (execOp ρ o).run Try.prog W = .ok (.value (.bool true)) W := by
  simp only [execOp, h, hx, h0]
  go_simp
theorem k_eql {x b : Nat} (row : (ops6[i]?).map shape = some (.binOp .eql 29 (.tmp x) (.const (.float .f32 0)) 29, some (66 + i), g)) (hlt : i < 101) (hg : Gok a g) (hI : Inv6 c listed a W) (hx : Holds (.val (.float .f32 b)) (V a x)) (hq : (FloatKind.f32.format.order b 0 == some .eq) = true)
    (hit : item c i = .val (.bool true)) : wpOp Try.prog ops6 Q i (Inv6 c (listed.setIfInBounds i true)) a W :=
  go_value row hlt hg hI (fun o hp => run_eql (ρ := a.eval) (b := b) o hp hx rfl hq W) (by rw [hit]; rfl)
theorem run_pick {x y : Operand} {z : Value} {ρ : Operand → Value} (o : Oper) (h : o.op = .pick x y (.const z)) (hx : ρ x = .bool true) (hy : ρ y = .bool true) (W : World) : (execOp ρ o).run Try.prog W = .ok (.value (.bool true)) W := by
  simp only [execOp, h, hx, hy]
  go_simp
theorem k_pick {x y : Nat} (row : (ops6[i]?).map shape = some (.pick (.tmp x) (.tmp y) (.const (.bool false)), some (66 + i), g)) (hlt : i < 101) (hg : Gok a g) (hI : Inv6 c listed a W) (hx : Holds (.val (.bool true)) (V a x)) (hy : Holds (.val (.bool true)) (V a y))
    (hit : item c i = .val (.bool true)) : wpOp Try.prog ops6 Q i (Inv6 c (listed.setIfInBounds i true)) a W :=
  go_value row hlt hg hI (fun o hp => run_pick (ρ := a.eval) o hp hx hy W) (by rw [hit]; rfl)

/-- From a made number to what a call leaves. -/
theorem made_num {f : FuncId} {args : Array Value} {n m : Int} (hit : item c i = .num n m) (h : Made f args W n m) : Calls Try.prog f args W fun e W' => ∃ v, e = .returned v ∧ Holds (item c i) v ∧ Below W.heap.size W W' := by
  refine h.mono ?_
  rintro e W' ⟨x, y, hx, hy, rfl, hB⟩
  exact ⟨_, rfl, by rw [hit]; exact ⟨x, y, hx, hy, rfl⟩, hB⟩
theorem gives_true {f : FuncId} {args : Array Value} (hit : item c i = .val (.bool true)) (h : Gives f args W (.bool true)) : Calls Try.prog f args W fun e W' => ∃ v, e = .returned v ∧ Holds (item c i) v ∧ Below W.heap.size W W' := by
  refine h.mono ?_
  rintro e W' ⟨rfl, hB⟩
  exact ⟨_, rfl, by rw [hit]; rfl, hB⟩

theorem k_mk {x : Nat} {y : Operand} {n m : Int} (row : (ops6[i]?).map shape = some (.call { callee := .value (.func 39), args := #[.tmp x, y], argTypes := #[3, 3] }, some (66 + i), g)) (hlt : i < 101) (hg : Gok a g) (hI : Inv6 c listed a W) (hx : Holds (.val (.int .i64 n)) (V a x)) (hy : a.eval y = .int .i64 m)
    (b1 : n.natAbs < 2 ^ 24) (b2 : m.natAbs < 2 ^ 24) (hit : item c i = .num n m) : wpOp Try.prog ops6 Q i (Inv6 c (listed.setIfInBounds i true)) a W := by
  have e1 : a.eval (.tmp x) = .int .i64 n := hx
  refine go_call row hlt hg hI (fun o hp => calls2 o hp rfl (fun _ _ => by go_simp) W) ?_
  rw [e1, hy]
  exact made_num hit (mkV n m W b1 b2)
theorem k_add13 {x y : Nat} {n m p q : Int} (row : (ops6[i]?).map shape = some (.call { callee := .value (.func 13), args := #[.tmp x, .tmp y], argTypes := #[32, 32] }, some (66 + i), g)) (hlt : i < 101) (hg : Gok a g) (hI : Inv6 c listed a W) (hx : Holds (.num n m) (V a x)) (hy : Holds (.num p q) (V a y))
    (b1 : (n + p).natAbs < 2 ^ 24) (b2 : (m + q).natAbs < 2 ^ 24) (hit : item c i = .num (n + p) (m + q)) : wpOp Try.prog ops6 Q i (Inv6 c (listed.setIfInBounds i true)) a W := by
  obtain ⟨x1, x2, v1, v2, e1⟩ := hx
  obtain ⟨y1, y2, v3, v4, e2⟩ := hy
  have e1 : a.eval (.tmp x) = numV x1 x2 := e1
  have e2 : a.eval (.tmp y) = numV y1 y2 := e2
  refine go_call row hlt hg hI (fun o hp => calls2 o hp rfl (fun _ _ => by go_simp) W) ?_
  rw [e1, e2]
  exact made_num hit (addV v1 v2 v3 v4 W b1 b2)
theorem k_sub14 {x y : Nat} {n m p q : Int} (row : (ops6[i]?).map shape = some (.call { callee := .value (.func 14), args := #[.tmp x, .tmp y], argTypes := #[32, 32] }, some (66 + i), g)) (hlt : i < 101) (hg : Gok a g) (hI : Inv6 c listed a W) (hx : Holds (.num n m) (V a x)) (hy : Holds (.num p q) (V a y))
    (b1 : (n - p).natAbs < 2 ^ 24) (b2 : (m - q).natAbs < 2 ^ 24) (hit : item c i = .num (n - p) (m - q)) : wpOp Try.prog ops6 Q i (Inv6 c (listed.setIfInBounds i true)) a W := by
  obtain ⟨x1, x2, v1, v2, e1⟩ := hx
  obtain ⟨y1, y2, v3, v4, e2⟩ := hy
  have e1 : a.eval (.tmp x) = numV x1 x2 := e1
  have e2 : a.eval (.tmp y) = numV y1 y2 := e2
  refine go_call row hlt hg hI (fun o hp => calls2 o hp rfl (fun _ _ => by go_simp) W) ?_
  rw [e1, e2]
  exact made_num hit (subV v1 v2 v3 v4 W b1 b2)
theorem k_mul15 {x y : Nat} {n m p q : Int} (row : (ops6[i]?).map shape = some (.call { callee := .value (.func 15), args := #[.tmp x, .tmp y], argTypes := #[32, 32] }, some (66 + i), g)) (hlt : i < 101) (hg : Gok a g) (hI : Inv6 c listed a W) (hx : Holds (.num n m) (V a x)) (hy : Holds (.num p q) (V a y))
    (b1 : (n * p).natAbs < 2 ^ 24) (b2 : (m * q).natAbs < 2 ^ 24) (b3 : (n * p - m * q).natAbs < 2 ^ 24) (b4 : (n * q).natAbs < 2 ^ 24) (b5 : (m * p).natAbs < 2 ^ 24) (b6 : (n * q + m * p).natAbs < 2 ^ 24) (hit : item c i = .num (n * p - m * q) (n * q + m * p)) : wpOp Try.prog ops6 Q i (Inv6 c (listed.setIfInBounds i true)) a W := by
  obtain ⟨x1, x2, v1, v2, e1⟩ := hx
  obtain ⟨y1, y2, v3, v4, e2⟩ := hy
  have e1 : a.eval (.tmp x) = numV x1 x2 := e1
  have e2 : a.eval (.tmp y) = numV y1 y2 := e2
  refine go_call row hlt hg hI (fun o hp => calls2 o hp rfl (fun _ _ => by go_simp) W) ?_
  rw [e1, e2]
  exact made_num hit (mulV v1 v2 v3 v4 W b1 b2 b3 b4 b5 b6)
theorem k_div {x y j : Nat} {n m xx yy : Int} (row : (ops6[i]?).map shape = some (.call { callee := .value (.func 16), args := #[.tmp x, .tmp y], argTypes := #[32, 32] }, some (66 + i), g)) (hlt : i < 101) (hg : Gok a g) (hI : Inv6 c listed a W) (hx : Holds (.num xx yy) (V a x)) (hy : Holds (.num (2 ^ j) 0) (V a y))
    (hj : j ≤ 7) (l0 : n.natAbs ≤ 1000) (l1 : m.natAbs ≤ 1000) (h1 : xx = n * 2 ^ j) (h2 : yy = m * 2 ^ j) (hit : item c i = .num n m) : wpOp Try.prog ops6 Q i (Inv6 c (listed.setIfInBounds i true)) a W := by
  obtain ⟨x1, x2, v1, v2, e1⟩ := hx
  obtain ⟨y1, y2, v3, v4, e2⟩ := hy
  have e1 : a.eval (.tmp x) = numV x1 x2 := e1
  have e2 : a.eval (.tmp y) = numV y1 y2 := e2
  refine go_call row hlt hg hI (fun o hp => calls2 o hp rfl (fun _ _ => by go_simp) W) ?_
  rw [e1, e2]
  exact made_num hit (divE hj l0 l1 v1 v2 v3 v4 h1 h2 W)
theorem k_equal {x y : Nat} {n m p q : Int} (row : (ops6[i]?).map shape = some (.call { callee := .value (.func 41), args := #[.tmp x, .tmp y], argTypes := #[32, 32] }, some (66 + i), g)) (hlt : i < 101) (hg : Gok a g) (hI : Inv6 c listed a W) (hx : Holds (.num n m) (V a x)) (hy : Holds (.num p q) (V a y))
    (h1 : n = p) (h2 : m = q) (hit : item c i = .val (.bool true)) : wpOp Try.prog ops6 Q i (Inv6 c (listed.setIfInBounds i true)) a W := by
  obtain ⟨x1, x2, v1, v2, e1⟩ := hx
  obtain ⟨y1, y2, v3, v4, e2⟩ := hy
  have e1 : a.eval (.tmp x) = numV x1 x2 := e1
  have e2 : a.eval (.tmp y) = numV y1 y2 := e2
  refine go_call row hlt hg hI (fun o hp => calls2 o hp rfl (fun _ _ => by go_simp) W) ?_
  rw [e1, e2]
  exact gives_true hit (equalE v1 v2 v3 v4 h1 h2 W)
theorem k_awake (row : (ops6[i]?).map shape = some (.call { callee := .value (.func 27), args := #[], argTypes := #[] }, some (66 + i), g)) (hlt : i < 101) (hg : Gok a g) (hI : Inv6 c listed a W) (hit : item c i = .val (.bool true)) : wpOp Try.prog ops6 Q i (Inv6 c (listed.setIfInBounds i true)) a W :=
  go_call row hlt hg hI (fun o hp => calls0 o hp rfl (fun _ _ => by go_simp) W) (gives_true hit (awake_any W))
end
end Go.Proofs.Ytcgndnpnnfjgpaa
