// Package pony makes programs of texts, and types and expressions of the core, for the tests of the layers that have to do with checked programs.
package pony

import (
	"hackamore/api"
	"hackamore/generic"
	"hackamore/names"
)

// Program returns the reified program whose package main has a text; it panics where there is none.
func Program(text string) []api.Entity {
	p, e := names.Program(map[string]string{"main": text}, nil)
	if e != api.OK {
		panic("names: error " + e.Error())
	}
	p, e = generic.Reify(p, "main.Main")
	if e != api.OK {
		panic("generic: error " + e.Error())
	}
	return p
}

// Cells is the text of a program that has entities of all kinds, fields of all capabilities, and methods for all receivers.
const Cells = `
interface Sound
  fun box m(): U8
interface Runs
  be go(x: Cell iso)
trait Named
  fun box name(): String => "named"
  fun box m(): U8
primitive P
  fun box p(): U8 => U8(2)
class Cell
  var c: Cell ref
  let d: Cell val
  var i: Cell iso
  var t: Cell trn
  var b: Cell box
  var g: Cell tag
  var u: U8
  var o: (Cell iso | None)
  new ref create(x: Cell ref, v: Cell val, i': Cell iso, t': Cell trn) =>
    c = x
    d = v
    i = consume i'
    t = consume t'
    b = x
    g = x
    u = U8(0)
    o = None
  new iso make(x: Cell val) ? => error
  fun box get(): Cell box => c
  fun ref mine(): Cell => c
  fun ref put(x: Cell): Cell => c = x
  fun val share(): Cell val => d
  fun iso alone(): U8 => U8(0)
  fun trn half(): U8 => u
  fun tag id(x: Any): Bool => this is x
  fun box part(x: U8): U8 ? => x +? u
  fun ref send(a: Act, x: Cell iso): None => a.go(consume x)
class Dog is Named
  new create() => None
  fun box m(): U8 => U8(1)
class val Cat
  new val create(x: Cell val) => None
  fun box m(): U8 => U8(3)
actor Act is Runs
  var cell: Cell ref
  new create(x: Cell iso) => cell = consume x
  be go(x: Cell iso) => cell = consume x
  fun ref mine(): Cell => cell
  fun tag far(): U8 => U8(0)
actor Main
  new create(env: Env) => env.out.print("cells")
  fun tag all(s: Sound, r: Runs, n: Named, d: Dog, k: Cat, a: Act, p: P, l: Array[Cell], m: Array[U8]) => None
`
