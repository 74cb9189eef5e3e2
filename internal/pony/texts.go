package pony

// Texts returns the texts of programs that are right, and have something of everything.
func Texts() []string {
	return []string{list, functions, ring, blocks, traits, stores, generics, Cells}
}

// list has a list with an iterator.
const list = `class Node[A: Any #any]
  var value: A
  var next: (Node[A] | None) = None
  new create(v: A) => value = consume v
  fun ref link(n: Node[A]) => next = n
class List[A: Any val]
  var head: (Node[A] | None) = None
  var count: USize = 0
  fun ref push(v: A) =>
    let n: Node[A] = Node[A](v)
    match head
    | let h: Node[A] => n.link(h)
    end
    head = n
    count = count + 1
  fun size(): USize => count
  fun values(): ListIter[A] => ListIter[A](head)
class ListIter[A: Any val]
  var at: (Node[A] box | None)
  new create(n: (Node[A] box | None)) => at = n
  fun ref has_next(): Bool =>
    match at
    | None => false
    else true
    end
  fun ref next(): A ? =>
    match at
    | let n: Node[A] box =>
      at = n.next
      n.value
    else error
    end
actor Main
  new create(env: Env) =>
    let l: List[U32] = List[U32]()
    l.push(U32(1))
    l.push(U32(2))
    var sum: U32 = U32(0)
    for x: U32 in l.values() do
      sum = sum + x
    end
    env.out.print(sum.string())
`

// functions has functions as values.
const functions = `interface Fn
  fun apply(x: U32): U32
primitive Twice
  fun apply(f: Fn box, x: U32): U32 => f(f(x))
  fun two(x: U32, y: U32 = U32(3)): U32 => x * y
class Counter
  var n: U32 = U32(0)
  fun ref inc(): U32 => n = n + U32(1)
  fun get(): U32 => n
actor Main
  new create(env: Env) =>
    let k: U32 = U32(5)
    let f: Fn box = {(x: U32): U32 => x + k}
    env.out.print(Twice.apply(f, U32(1)).string())
    let c: Counter = Counter()
    let g: {(): U32} ref = {()(c: Counter = c): U32 => c.get()} ref
    g()
    c.inc()
    env.out.print(c.get().string())
    let o: Fn ref = object is Fn fun apply(x: U32): U32 => x * k end
    env.out.print(o(U32(7)).string())
    let h: {(U32, U32): U32} ref = Twice~two()
    env.out.print(h(U32(2), U32(3)).string())
    env.out.print(Twice.two(where x = U32(2)).string())
`

// ring has actors in a row.
const ring = `actor Ring
  let next: (Ring | None)
  let out: Out
  new create(o: Out, n: (Ring | None)) => out = o; next = n
  be pass(k: USize) =>
    if k == 0 then out.print("done")
    else
      match next
      | let r: Ring => r.pass(k - 1)
      | None => out.print("end")
      end
    end
actor Main
  new create(env: Env) =>
    var r: (Ring | None) = None
    var i: USize = 0
    while i < 10 do
      r = Ring(env.out, r)
      i = i + 1
    end
    match r
    | let x: Ring => x.pass(20)
    end
`

// blocks has recover blocks, tuples, tries and matches.
const blocks = `class Buf
  let data: Array[U8] = Array[U8].create()
  var closed: Bool = false
  fun ref add(x: U8): Buf => data.push(x); this
  fun ref dispose() => closed = true
  fun size(): USize => data.size()
actor Sink
  let out: Out
  new create(o: Out) => out = o
  be take(b: Buf iso) =>
    let c: Buf ref = consume b
    c.>add(U8(9)); c.add(U8(1))
    out.print(c.size().string())
  be show(s: String, t: (U8, String)) =>
    (let a: U8, let b: String) = t
    out.print(s + a.string() + b)
actor Main
  new create(env: Env) =>
    let s: Sink = Sink(env.out)
    let b: Buf iso = recover iso
      let x: Buf = Buf()
      x.add(U8(1))
      x.add(U8(2))
      x
    end
    s.take(consume b)
    s.show("x", (U8(3), "y"))
    with w: Buf = Buf() do w.add(U8(1)) end
    let l: Array[String] = [as String: "a"; "b"]
    try
      env.out.print(l(0)?)
      env.out.print(l(5)?)
    else
      env.out.print("none")
    then
      env.out.print("then")
    end
    repeat l.push("c") until l.size() > 4 end
    match (l.size(), true)
    | (let n: USize, let y: Bool) if y => env.out.print(n.string())
    end
    let z: (U8 | String) = if l.size() > 3 then U8(1) else "s" end
    match z
    | let u: U8 => try env.out.print((u +? U8(255)).string()) end
    | let t: String => env.out.print(t)
    end
`

// traits has traits and generic methods.
const traits = `trait Animal
  fun name(): String
  fun speak(): String => name() + "!"
class Dog is Animal
  fun name(): String => "dog"
class Cat is (Animal & Stringable)
  let n: String
  new create(n': String) => n = n'
  fun name(): String => n
  fun string(): String => speak()
interface Visitor[R: Any val]
  fun ref visit(a: Animal box): R
class Count is Visitor[USize]
  var k: USize = 0
  fun ref visit(a: Animal box): USize => k = k + a.name().size(); k
primitive Walk
  fun over[R: Any val](v: Visitor[R], l: Array[Animal] box, start: R): R =>
    var r: R = start
    for i: USize in Range(0, l.size()) do
      try r = v.visit(l(i)?) end
    end
    r
actor Main
  new create(env: Env) =>
    let l: Array[Animal] = [as Animal: Dog(); Cat("tom")]
    let n: USize = Walk.over[USize](Count(), l, 0)
    env.out.print(n.string())
    try
      let a: Animal = l(1)?
      let s: Stringable box = a as Stringable box
      env.out.print(s.string())
      env.out.print((a as Cat).name())
    end
    try let p: (Animal, USize) = (l.pop()?, 3) end
`

// stores has what goes from actor to actor.
const stores = `class Cell
  var v: U64 = U64(0)
  fun ref put(x: U64) => v = x
  fun get(): U64 => v
actor Store
  var c: (Cell iso | None) = None
  let out: Out
  new create(o: Out) => out = o
  be put(x: Cell iso) => c = consume x
  be give(to: Store) =>
    match c = None
    | let x: Cell iso => to.put(consume x)
    end
  be print() =>
    let t: (Cell iso | None) = c = None
    match consume t
    | let x: Cell iso =>
      let y: Cell val = consume x
      out.print(y.get().string())
    | None => out.print("none")
    end
actor Main
  new create(env: Env) =>
    let a: Store = Store(env.out)
    let b: Store = Store(env.out)
    a.put(recover iso let c: Cell = Cell(); c.put(U64(4)); c end)
    a.give(b)
    a.print()
    b.print()
    let m: Cell trn = recover trn Cell() end
    let k: Cell val = consume m
    let z: Cell iso = recover Cell() end
    let w: Cell box = consume z
    env.out.print(k.get().string() + w.get().string())
`

// generics has generic classes, loops and numbers.
const generics = `type Num is (U8 | U16)
class Pair[A: Any val, B: Any val]
  let a: A
  let b: B
  new val create(a': A, b': B) => a = a'; b = b'
  fun swap(): Pair[B, A] val => Pair[B, A](b, a)
  fun with_a[C: Any val](c: C): Pair[C, B] val => Pair[C, B](c, b)
class Tree[A: Any ref]
  var left: (Tree[A] | None) = None
  var right: (Tree[A] | None) = None
  var item: A
  new create(i: A) => item = i
  fun box see(): this->A => item
  fun ref add(i: A) =>
    match left
    | let l: Tree[A] => l.add(i)
    | None => left = Tree[A](i)
    end
  fun box size(): USize =>
    var n: USize = 1
    match left
    | let l: Tree[A] box => n = n + l.size()
    end
    match right
    | let l: Tree[A] box => n = n + l.size()
    end
    n
class Thing
  var k: U8 = U8(0)
actor Main
  new create(env: Env) =>
    let p: Pair[U8, String] val = Pair[U8, String](U8(1), "x")
    let q: Pair[String, U8] val = p.swap()
    let r: Pair[Bool, String] val = p.with_a[Bool](true)
    env.out.print(q.a + r.b)
    let t: Tree[Thing] = Tree[Thing](Thing())
    t.add(Thing())
    t.item.k = U8(4)
    let b: Tree[Thing] box = t
    env.out.print(b.see().k.string() + b.size().string())
    let n: Num = U8(3)
    let s: String = match n
    | let x: U8 => x.string()
    | let x: U16 => x.string()
    end
    env.out.print(s)
    var i: USize = 0
    while true do
      i = i + 1
      if i > 5 then break end
      if (i % 2) == 0 then continue end
      env.out.print(i.string())
    end
    let f: F64 = F64(1.5)
    env.out.print((f * 2.0).string())
    let x: I128 = I128(5)
    env.out.print((x << I128(3)).string() + x.f64().string())
    if (i is i) and (p isnt q) then env.out.print("is") end
`
