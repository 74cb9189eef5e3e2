package machine_test

import (
	"strings"
	"testing"

	"hackamore/api"
	"hackamore/internal/pony"
	"hackamore/internal/sample"
	. "hackamore/machine"
	"hackamore/meaning"
	"hackamore/optimize"
)

// tuples has tuples of numbers in a loop, in one another, and in a match.
const tuples = `
actor Main
  new create(env: Env) =>
    var t: (U32, F64) = (U32(1), F64(2.5))
    var i: U32 = U32(0)
    while i < U32(5) do
      (let a: U32, let b: F64) = t
      t = (a + i, b * F64(1.5))
      i = i + U32(1)
      env.out.print(a.string())
      env.out.print(b.string())
    end
    let u: ((U32, F64), (U32, F64)) = (t, t)
    match u
    | ((let a: U32, let b: F64), (let c: U32, let d: F64)) => env.out.print((a + c).string())
    end
    env.out.print(if t is t then "same" else "other" end)
`

// methods has tuples that go through methods and fields, and partial ones.
const methods = `
class C
  var x: U8 = U8(0)
  var y: (U8, Bool) = (U8(1), true)
  new create(n: U8) => x = n
  fun ref swap(a: U8, b: Bool): (U8, Bool) => y = (a, b)
  fun box sum(): U8 =>
    (let a: U8, let b: Bool) = y
    x + a
  fun box part(n: U8): (U8, U8) ? => if n == U8(0) then error else (n, n + U8(1)) end
actor Main
  new create(env: Env) =>
    let c: C = C(U8(3))
    var k: U8 = U8(0)
    var last: (U8, Bool) = (U8(0), false)
    while k < U8(6) do
      last = c.swap(k, (k % U8(2)) == U8(0))
      let z: (U8, U8) = try c.part(k - U8(2))? else (U8(9), U8(8)) end
      (let a: U8, let b: U8) = z
      (let d: U8, let e: Bool) = last
      env.out.print((a + b + d).string())
      k = k + U8(1)
    else
      env.out.print("never")
    end
    env.out.print(c.sum().string())
`

// kinds has numbers of several types, and an Array of some.
const kinds = `
actor Main
  new create(env: Env) =>
    var a: I128 = I128(1)
    var b: F32 = F32(1)
    var n: USize = 0
    let l: Array[(U8 | None)] = Array[(U8 | None)].create()
    while n < 12 do
      a = a * I128(7)
      b = b / F32(3)
      if (n % 3) == 0 then l.push(None) else l.push(n.u8()) end
      n = n + 1
    end
    env.out.print(a.string())
    env.out.print(b.string())
    var s: U8 = U8(0)
    var i: USize = 0
    while i < l.size() do
      try
        match l(i)?
        | let x: U8 if x > U8(4) => s = s + x
        | let x: U8 => s = s - x
        | None => s = s * U8(3)
        end
      end
      i = i + 1
    end
    env.out.print(s.string())
    try l(99)? else env.out.print("none") end
`

// ring sends tuples from actor to actor.
const ring = `
actor Ring
  let next: (Ring | None)
  let out: Out
  var seen: U32 = U32(0)
  new create(o: Out, n: (Ring | None)) => next = n; out = o
  be pass(k: U32, t: (U32, Bool)) =>
    (let x: U32, let y: Bool) = t
    seen = seen + x
    if k == U32(0) then out.print(seen.string()) else
      match next
      | let r: Ring => r.pass(k - U32(1), (x + U32(1), not y))
      | None => out.print(if y then "yes" else "no" end)
      end
    end
actor Main
  new create(env: Env) =>
    let a: Ring = Ring(env.out, None)
    let b: Ring = Ring(env.out, a)
    let c: Ring = Ring(env.out, b)
    c.pass(U32(2), (U32(5), true))
    c.pass(U32(7), (U32(1), false))
    b.pass(U32(0), (U32(100), false))
`

// unions has a variable of several types, and ways out of loops and a try.
const unions = `
actor Main
  new create(env: Env) =>
    var x: (U32 | String) = U32(1)
    var y: U32 = U32(7)
    var z: U32 = U32(9)
    var i: U32 = U32(0)
    while i < U32(9) do
      let h: U32 = y
      y = z
      z = h
      x = if (i % U32(3)) == U32(0) then "s" else y end
      if i == U32(4) then i = i + U32(2); continue end
      if i == U32(8) then break end
      i = i + U32(1)
      env.out.print(match x | let s: String => s | let n: U32 => n.string() end)
    end
    env.out.print(((y * U32(1000)) + z).string())
    let r: U32 = try if y == z then error end; U32(3) else U32(4) then env.out.print("then") end
    env.out.print(r.string())
`

// TestValues runs programs whose values are in registers of all kinds, behind all levels of passes, and behind others.
func TestValues(t *testing.T) {
	for _, x := range []struct{ text, want string }{
		{tuples, "1 2.5 1 3.75 2 5.625 4 8.4375 7 12.65625 22 same"},
		{methods, "254 255 18 5 8 11 8"},
		{kinds, "13841287201 1.8816764e-6 250 none"},
		{ring, "100 7 no"},
		{unions, "s 7 9 s s 9 7009 then 3"},
	} {
		p := pony.Program(x.text)
		for seed := range 14 {
			pick := sample.Source(uint64(seed))
			passes := optimize.Usual(seed)
			if seed > 3 {
				passes = somePasses(pick)
			}
			if !engines(t, x.want, p, passes, []int{pick(9), pick(9), pick(9), pick(9)}, api.MaxFuel) {
				t.Errorf("%s: it does not rest", x.want)
			}
			c, _ := Compile(p, passes)
			if s, end := Run(c, p, nil, nil, api.MaxFuel, Options{}); strings.Join(s.Output, " ") != x.want || end.Kind != meaning.Rest {
				t.Errorf("%q, not %q: %v", s.Output, x.want, end)
			}
		}
	}
}
