package save

import (
	"bytes"
	"encoding/binary"
	"hash/crc32"
	"math"
	"slices"
	"testing"

	"weald/access"
	"weald/api"
	"weald/cell"
	"weald/disk"
	"weald/play"
)

// threads are how many a memory may be for: few, and the most.
var threads = []int{1, 2, 3, 63, 64}

// records are some of the least, and of the greatest, of 65536.
var records = []int{1, 2, 7, 65535, 65536}

// stamps are small ones, greater ones, and the greatest of which an entry may be.
var stamps = []uint64{1, 2, 3, 7, 1<<32 - 1, 1 << 32, 1<<62 - 1}

// numbers are a word's: small ones, and those at the bounds of words.
var numbers = []uint64{0, 1, 2, 3, 4, 7, 255, 1 << 20, 1<<32 - 1, 1 << 32, 1<<62 - 1, 1 << 62, 1<<63 - 1, 1 << 63, math.MaxUint64 - 1, math.MaxUint64}

// both are the two bits.
var both = []int{api.BBirth, api.BDeath}

// failed is what a cas is told that isn't done.
var failed = []uint64{0, 2, math.MaxUint64}

// mine are the kinds of the chapter's operations.
var mine = []int{api.OMake, api.OAlive, api.OSet, api.OSave, api.ODead}

// births are a record's words that a birth has: a key, its ends' stamps, and a
// weight.
var births = [][4]uint64{
	{0, 0, 0, 0},
	{1 << 31, 0, 0, 1},
	{(1<<30 - 1) << 31, 0, 0, math.MaxUint64},
	{1, 1, 1, 0},
	{3<<31 + 1, 7, 9, math.Float64bits(-2.5)},
	{(1<<30-1)<<31 + 1<<30, 1<<62 - 1, 1<<62 - 1, 1 << 63},
}

// none are such as no birth has: what is no key, a vertex with ends, an edge
// without, or with such as are no stamps.
var none = [][4]uint64{
	{1 << 61, 0, 0, 0},
	{1 << 61, 1, 1, 0},
	{1<<30 + 1, 1, 1, 0},
	{math.MaxUint64, 1, 1, 0},
	{0, 1, 0, 0},
	{0, 0, 1, 0},
	{1, 0, 0, 5},
	{1, 0, 1, 5},
	{1, 1, 0, 5},
	{1, 1 << 62, 1, 5},
	{1, 1, 1 << 62, 5},
}

// fieldAt is the place of a record's word.
func fieldAt(t, r, f int) int { return 8 + t + 8*(r-1) + f }

// A record's words, by their places.
const (
	nextWord = iota
	keyWord
	flagWord
	endsWord
	uWord
	vWord
	weightWord
)

// frameOf are the bytes of an entry: its length, its check, its kind, and numbers.
func frameOf(kind byte, l ...uint64) []byte {
	body := []byte{kind}
	for _, n := range l {
		body = binary.LittleEndian.AppendUint64(body, n)
	}
	b := binary.LittleEndian.AppendUint16(nil, uint16(len(body)))
	b = binary.LittleEndian.AppendUint32(b, crc32.ChecksumIEEE(body))
	return append(b, body...)
}

// sameAccess: are two accesses the same? (Two lists are, if their elements are.)
func sameAccess(a, b api.Access) bool {
	return a.Kind == b.Kind && a.Cell == b.Cell && a.A == b.A && a.B == b.B && bytes.Equal(a.Data, b.Data) && slices.Equal(a.Word, b.Word)
}

// sameOut: are two answers the same?
func sameOut(a, b api.Out) bool {
	return a.Err == b.Err && a.Is == b.Is && a.N == b.N && a.W == b.W && slices.Equal(a.List, b.List)
}

// tale is what an operation asks, and is told, one after the other; and what it
// answers then.
type tale struct {
	asks []api.Access
	log  []api.Result
	out  api.Out
}

// tell lays an access, and what it is told, behind those of a tale.
func (x *tale) tell(a api.Access, told api.Result) {
	x.asks = append(x.asks, a)
	x.log = append(x.log, told)
}

// load, store, cas and count lay one of a word; append and sync one of a stream.
func (x *tale) load(i int, told uint64) {
	x.tell(api.Access{Kind: api.ALoad, Cell: i}, api.Result{N: told})
}

func (x *tale) store(i int, n uint64) {
	x.tell(api.Access{Kind: api.AStore, Cell: i, A: n}, api.Result{N: n % 3})
}

func (x *tale) cas(i int, a, b, told uint64) {
	x.tell(api.Access{Kind: api.ACas, Cell: i, A: a, B: b}, api.Result{N: told})
}

func (x *tale) count(told uint64) {
	x.tell(api.Access{Kind: api.AAdd, Cell: 2, A: 1}, api.Result{N: told})
}

func (x *tale) append(data []byte, told api.Result) {
	x.tell(api.Access{Kind: api.AAppend, Data: data}, told)
}

func (x *tale) sync(told api.Result) { x.tell(api.Access{Kind: api.ASync}, told) }

// made lays the accesses of a Make.
func (x *tale) made(n, r int, was uint64, e api.Entry, pair uint64) {
	x.count(was)
	x.store(fieldAt(n, r, flagWord), (was+1)<<2)
	x.store(fieldAt(n, r, keyWord), e.Key)
	x.store(fieldAt(n, r, endsWord), pair)
	x.store(fieldAt(n, r, uWord), e.SU)
	x.store(fieldAt(n, r, vWord), e.SV)
	x.store(fieldAt(n, r, weightWord), e.W)
}

// entry lays the accesses of a Save behind its first load, up to the Append, of
// what is to be told of that: a birth's words are b.
func (x *tale) entry(n, r, bit int, f uint64, b [4]uint64, may bool, told api.Result) {
	data := frameOf(2, f>>2)
	if bit == api.BBirth {
		x.load(fieldAt(n, r, keyWord), b[0])
		x.load(fieldAt(n, r, uWord), b[1])
		x.load(fieldAt(n, r, vWord), b[2])
		x.load(fieldAt(n, r, weightWord), b[3])
		data = frameOf(1, f>>2, b[0], b[1], b[2], b[3])
	}
	if !may {
		data = nil
	}
	x.append(data, told)
}

// tries lays rounds of loads of a flag, and of a cas of each; what the last one is
// told, is told at the end.
func (x *tale) tries(n, r, bit int, flags []uint64, missed, told uint64) {
	for i, f := range flags {
		x.load(fieldAt(n, r, flagWord), f)
		done := missed
		if i == len(flags)-1 {
			done = told
		}
		x.cas(fieldAt(n, r, flagWord), f, f|uint64(bit), done)
	}
}

// turns lays how a Save, or a Set, may come to its end: by its cas, or by a bit that
// another one put, behind rounds that miss, of the same stamp, without the bit.
func (x *tale) turns(n, r, bit int, f uint64, way, missed int) {
	var l []uint64
	for k := range missed {
		// The other bit comes in between (and goes again, which no flag does).
		l = append(l, f&^3|uint64(3-bit)*uint64(k%2))
	}
	told := failed[missed%3]
	switch way {
	case 0:
		x.tries(n, r, bit, append(l, f&^uint64(bit)), told, 1)
	case 1:
		x.tries(n, r, bit, l, told, told)
		x.load(fieldAt(n, r, flagWord), f|uint64(bit))
	case 2:
		x.tries(n, r, bit, l, told, told)
		x.load(fieldAt(n, r, flagWord), f|3)
	}
}

// goes: does an operation ask just what a tale says, told each beginning of its
// log, and answer what it says, whatever of a log is left?
func (x *tale) goes(t *testing.T, n, c, me int, op api.Op) {
	t.Helper()
	x.plays(t, func(log []api.Result) (api.Access, api.Out, bool) { return Next(n, c, me, op, log) })
}

// plays: so it is of what plays anything.
func (x *tale) plays(t *testing.T, run func(log []api.Result) (api.Access, api.Out, bool)) {
	t.Helper()
	for k, want := range x.asks {
		a, out, done := run(x.log[:k])
		if !sameAccess(a, want) || !sameOut(out, api.Out{}) || done {
			t.Fatalf("told %v: %v, %v, %v, not the access %v alone", x.log[:k], a, out, done, want)
		}
	}
	more := append(slices.Clone(x.log), api.Result{N: 1}, api.Result{N: math.MaxUint64, B: []byte("ab"), Fail: true})
	for k := len(x.log); k <= len(more); k++ {
		a, out, done := run(more[:k])
		if !sameAccess(a, api.Access{}) || !sameOut(out, x.out) || !done {
			t.Fatalf("told %v: %v, %v, %v, not the answer %v alone", more[:k], a, out, done, x.out)
		}
	}
}

// calls: does a call that is handed a tale's Do ask just what the tale says?
func (x *tale) calls(t *testing.T, call func(do api.Do) api.Out) {
	t.Helper()
	k := 0
	out := call(func(a api.Access) api.Result {
		if k >= len(x.asks) || !sameAccess(a, x.asks[k]) {
			t.Fatalf("the access %d is %v, not of %v", k, a, x.asks)
		}
		k++
		return x.log[k-1]
	})
	if k != len(x.asks) || !sameOut(out, x.out) {
		t.Fatalf("%d accesses, and %v, not %d, and %v", k, out, len(x.asks), x.out)
	}
}

// setOf, saveOfBit, deadOf, aliveOf and makeOf are calls, each with its own
// arguments.
func setOf(n, r, bit int) func(do api.Do) api.Out {
	return func(do api.Do) api.Out { Set(do, n, r, bit); return api.Out{} }
}

func saveOfBit(n, r, bit int) func(do api.Do) api.Out {
	return func(do api.Do) api.Out { return api.Out{Is: Save(do, n, r, bit)} }
}

func deadOf(n, r int, stamp uint64) func(do api.Do) api.Out {
	return func(do api.Do) api.Out { return api.Out{Is: Dead(do, n, r, stamp)} }
}

func aliveOf(n, r int, stamp uint64) func(do api.Do) api.Out {
	return func(do api.Do) api.Out { return api.Out{Is: Alive(do, n, r, stamp)} }
}

func makeOf(n, r int, e api.Entry, pair uint64) func(do api.Do) api.Out {
	return func(do api.Do) api.Out { return api.Out{W: Make(do, n, r, e, pair)} }
}

// world is a new world.
func world(t *testing.T, n, c int) api.World {
	t.Helper()
	m, e := cell.New(n, c)
	d, f := disk.New(n)
	if e != api.OK || f != api.OK {
		t.Fatal(e, f)
	}
	return api.World{Mem: m, Disk: d}
}

// on makes accesses of a world, of a thread; those of its disk fail, if they may
// and it is told so.
func on(w *api.World, me int, fails func(kind int) bool) api.Do {
	return func(a api.Access) api.Result {
		var r api.Result
		*w, r = access.Do(*w, me, a, fails != nil && access.Disk(a.Kind) && fails(a.Kind))
		return r
	}
}

// alone plays an operation on a world to its end.
func alone(t *testing.T, w api.World, me int, op api.Op) (api.World, api.Out) {
	t.Helper()
	var log []api.Result
	for range 1000 {
		a, out, done := Next(w.Mem.T, w.Mem.C, me, op, log)
		if done {
			return w, out
		}
		var r api.Result
		w, r = access.Do(w, me, a, false)
		log = append(log, r)
	}
	t.Fatal("no end:", op, log)
	return w, api.Out{}
}

// TestExample: that of the chapter (P14.1, P14.4, P14.7).
func TestExample(t *testing.T) {
	w, out := alone(t, world(t, 1, 1), 0, api.Op{Kind: api.OMake, U: 1, W: 0})
	if !sameOut(out, api.Out{W: 1}) || len(w.Disk.Rows[0][0].Data) != 0 {
		t.Fatal(out, w)
	}
	want := frameOf(1, 1, 0, 0, 0, 0)
	for range 2 {
		w, out = alone(t, w, 0, api.Op{Kind: api.OSave, U: 1, V: api.BBirth})
		s := w.Disk.Rows[0][0]
		if !sameOut(out, api.Out{Is: true}) || !bytes.Equal(s.Data, want) || s.Synced != len(want) {
			t.Fatal(out, s)
		}
	}
	if len(want) != 6+41 || w.Mem.Word[fieldAt(1, 1, flagWord)] != 5 {
		t.Error(len(want), w.Mem.Word)
	}
}

// TestMake: it adds to the count, and stores the flag of the stamp, and then the
// record's other words, in their order; the stamp is one more than what it was told
// (P14.1, R5).
func TestMake(t *testing.T) {
	for _, n := range threads {
		for _, r := range records {
			for i, was := range numbers {
				k := numbers[(i+r)%len(numbers)]
				e := api.Entry{Kind: api.EBirth, Stamp: k + 5, Key: k, SU: k + 1, SV: k * 3, W: ^k}
				x := tale{out: api.Out{W: was + 1}}
				x.made(n, r, was, e, k+7)
				x.calls(t, makeOf(n, r, e, k+7))
			}
		}
	}
}

// TestMakeNext: an operation makes a record of a key alone (P14.7).
func TestMakeNext(t *testing.T) {
	for _, n := range threads {
		for _, r := range records {
			for _, was := range numbers {
				for _, k := range numbers {
					x := tale{out: api.Out{W: was + 1}}
					x.made(n, r, was, api.Entry{Key: k}, 0)
					x.goes(t, n, 65536, 0, api.Op{Kind: api.OMake, U: r, V: 9, W: k})
				}
			}
		}
	}
}

// TestAlive: it loads the next word, and then the flag, whatever the first one
// says; alive is what is of the stamp, and not marked (P14.2, P14.7).
func TestAlive(t *testing.T) {
	for _, n := range threads {
		for _, r := range records {
			for _, stamp := range append(stamps, 0, 1<<62, 1<<62+7, math.MaxUint64) {
				for _, now := range []uint64{stamp, stamp + 1, stamp - 1, stamp ^ 1<<61, stamp + 1<<62, 0} {
					for k := range 8 {
						w, f := uint64(2*r*(k/4)+k/2%2), now<<2+uint64(k*3%4)
						x := tale{out: api.Out{Is: k/2%2 == 0 && now<<2>>2 == stamp}}
						x.load(fieldAt(n, r, nextWord), w)
						x.load(fieldAt(n, r, flagWord), f)
						x.goes(t, n, 65536, 0, api.Op{Kind: api.OAlive, U: r, V: k, W: stamp})
						x.calls(t, aliveOf(n, r, stamp))
					}
				}
			}
		}
	}
}

// TestSetHas: a bit that is there is not put (P14.3, P14.7).
func TestSetHas(t *testing.T) {
	for _, n := range threads {
		for _, r := range records {
			for _, bit := range both {
				for _, stamp := range append(stamps, 0) {
					for _, bits := range []uint64{uint64(bit), 3} {
						var x tale
						x.load(fieldAt(n, r, flagWord), stamp<<2+bits)
						x.goes(t, n, 65536, 0, api.Op{Kind: api.OSet, U: r, V: bit})
						x.calls(t, setOf(n, r, bit))
					}
				}
			}
		}
	}
}

// TestSet: again and again it loads the flag, and puts the bit, until that was
// done, or it is there (P14.3, P14.7).
func TestSet(t *testing.T) {
	for _, n := range threads {
		for _, r := range records {
			for _, bit := range both {
				for _, stamp := range append(stamps, 0) {
					for k := range 3 * 7 {
						var x tale
						x.turns(n, r, bit, stamp<<2+uint64(3-bit)*uint64(k%2), k%3, k/3)
						x.goes(t, n, 65536, 0, api.Op{Kind: api.OSet, U: r, V: bit})
						x.calls(t, setOf(n, r, bit))
					}
				}
			}
		}
	}
}

// TestSetWhoever: also of another stamp, as Set asks for none (P14.3).
func TestSetWhoever(t *testing.T) {
	for _, bit := range both {
		var x tale
		l := []uint64{5 << 2, 6 << 2, 5<<2 + uint64(3-bit), 0, 1 << 63}
		x.tries(2, 3, bit, l, 0, 1)
		x.goes(t, 2, 3, 0, api.Op{Kind: api.OSet, U: 3, V: bit})
		x.calls(t, setOf(2, 3, bit))
	}
}

// TestSaveHas: what is durable is so: nothing is appended, and what the record is
// else is not asked (P14.4, P14.5).
func TestSaveHas(t *testing.T) {
	for _, n := range threads {
		for _, r := range records {
			for _, bit := range both {
				for _, stamp := range append(stamps, 0) {
					for _, bits := range []uint64{uint64(bit), 3} {
						x := tale{out: api.Out{Is: true}}
						x.load(fieldAt(n, r, flagWord), stamp<<2+bits)
						x.goes(t, n, 65536, 0, api.Op{Kind: api.OSave, U: r, V: bit})
						x.calls(t, saveOfBit(n, r, bit))
						if bit == api.BDeath {
							x.goes(t, n, 65536, 0, api.Op{Kind: api.ODead, U: r, W: stamp})
							x.calls(t, deadOf(n, r, stamp))
						}
					}
				}
			}
		}
	}
}

// saves looks at a tale of a Save, and, if it is of a death, of a Dead.
func (x *tale) saves(t *testing.T, n, r, bit int, stamp uint64) {
	t.Helper()
	x.goes(t, n, 65536, 0, api.Op{Kind: api.OSave, U: r, V: bit})
	x.calls(t, saveOfBit(n, r, bit))
	if bit == api.BDeath {
		x.goes(t, n, 65536, 0, api.Op{Kind: api.ODead, U: r, W: stamp})
		x.calls(t, deadOf(n, r, stamp))
	}
}

// TestSave: it appends the entry of what it loads, and syncs; and then puts the
// bit, until that was done, or it is there (P14.4, P14.5, P14.7).
func TestSave(t *testing.T) {
	told := []api.Result{{}, {N: 1}, {N: math.MaxUint64, B: []byte("ab")}}
	for _, n := range threads {
		for i, r := range records {
			for _, bit := range both {
				for j, stamp := range stamps {
					for k := range 3 * 7 {
						x := tale{out: api.Out{Is: true}}
						f := stamp<<2 + uint64(3-bit)*uint64((i+j)%2)
						x.load(fieldAt(n, r, flagWord), f)
						x.entry(n, r, bit, f, births[(i+j+k)%len(births)], true, told[k%3])
						x.sync(told[j%3])
						x.turns(n, r, bit, f, k%3, k/3)
						x.saves(t, n, r, bit, stamp)
					}
				}
			}
		}
	}
}

// TestSaveOther: if the flag is of another stamp then, that is all, whatever bits
// it has, and however often the cas missed (P14.4, P14.5, P14.8).
func TestSaveOther(t *testing.T) {
	for _, n := range threads {
		for _, bit := range both {
			for _, stamp := range stamps {
				for missed := range 4 {
					for bits := range uint64(4) {
						for _, now := range []uint64{stamp + 1, stamp - 1, stamp ^ 1<<61, 0} {
							if now<<2>>2 == stamp {
								continue
							}
							x := tale{out: api.Out{Is: true}}
							x.load(fieldAt(n, 4, flagWord), stamp<<2)
							x.entry(n, 4, bit, stamp<<2, births[missed], true, api.Result{})
							x.sync(api.Result{})
							x.tries(n, 4, bit, slices.Repeat([]uint64{stamp << 2}, missed), 0, 0)
							x.load(fieldAt(n, 4, flagWord), now<<2+bits)
							x.saves(t, n, 4, bit, stamp)
						}
					}
				}
			}
		}
	}
}

// TestSaveFails: if the Append, or the Sync, failed, that is all: no (P14.4,
// P14.5).
func TestSaveFails(t *testing.T) {
	for _, n := range threads {
		for _, r := range records {
			for _, bit := range both {
				for i, stamp := range stamps {
					for k := range 4 {
						var x tale
						x.load(fieldAt(n, r, flagWord), stamp<<2)
						fail := api.Result{N: uint64(k / 2), Fail: true}
						if k%2 == 0 {
							x.entry(n, r, bit, stamp<<2, births[i%len(births)], true, fail)
						} else {
							x.entry(n, r, bit, stamp<<2, births[i%len(births)], true, api.Result{})
							x.sync(fail)
						}
						x.saves(t, n, r, bit, stamp)
					}
				}
			}
		}
	}
}

// TestSaveMayNot: of an entry that may not be no bytes are appended; all else is
// the same (P14.4).
func TestSaveMayNot(t *testing.T) {
	for way := range 3 {
		for _, b := range none {
			x := tale{out: api.Out{Is: true}}
			x.load(fieldAt(2, 5, flagWord), 9<<2)
			x.entry(2, 5, api.BBirth, 9<<2, b, false, api.Result{})
			x.sync(api.Result{})
			x.turns(2, 5, api.BBirth, 9<<2, way, 2)
			x.saves(t, 2, 5, api.BBirth, 9)
		}
		for _, bit := range both {
			x := tale{out: api.Out{Is: true}}
			x.load(fieldAt(2, 5, flagWord), 0)
			x.entry(2, 5, bit, 0, births[0], false, api.Result{})
			x.sync(api.Result{})
			x.turns(2, 5, bit, 0, way, 2)
			x.saves(t, 2, 5, bit, 0)
			var y tale
			y.load(fieldAt(2, 5, flagWord), 0)
			y.entry(2, 5, bit, 0, births[0], false, api.Result{Fail: true})
			y.saves(t, 2, 5, bit, 0)
		}
	}
}

// TestDeadOther: of what is of another stamp by now nothing is asked more: yes
// (P14.5, P14.7).
func TestDeadOther(t *testing.T) {
	for _, n := range threads {
		for _, r := range records {
			for _, stamp := range append(stamps, 0) {
				for bits := range uint64(4) {
					for _, asked := range []uint64{stamp + 1, stamp - 1, stamp ^ 1, stamp ^ 1<<61, stamp + 1<<62, stamp + 3<<62, stamp << 2} {
						if asked == stamp {
							continue
						}
						x := tale{out: api.Out{Is: true}}
						x.load(fieldAt(n, r, flagWord), stamp<<2+bits)
						x.goes(t, n, 65536, 0, api.Op{Kind: api.ODead, U: r, V: int(bits), W: asked})
						x.calls(t, deadOf(n, r, asked))
					}
				}
			}
		}
	}
}

// inOf is In as a program, of a body that makes a row of accesses, and answers, and
// tells something; calls counts how often it is called.
func inOf(me int, row []api.Access, out api.Out, ok bool, calls *int) func(do api.Do) api.Out {
	return func(do api.Do) api.Out {
		return In(do, me, func() (api.Out, bool) {
			*calls++
			for _, a := range row {
				do(a)
			}
			return out, ok
		})
	}
}

// inside lays the accesses of an In, up to the end of a body.
func (x *tale) inside(me int, e uint64, row []api.Access) {
	x.load(7, 0)
	x.load(3, e)
	x.store(8+me, e+1)
	for i, a := range row {
		x.tell(a, api.Result{N: uint64(i), B: []byte("x")})
	}
}

// ins: does In go as a tale says, by Run, and without; with one call of the body, at
// most?
func (x *tale) ins(t *testing.T, bodies, me int, row []api.Access, out api.Out, ok bool) {
	t.Helper()
	n := 0
	x.calls(t, inOf(me, row, out, ok, &n))
	if n != bodies {
		t.Fatal("the body is called", n, "times, not", bodies)
	}
	x.plays(t, func(log []api.Result) (api.Access, api.Out, bool) {
		return play.Run(inOf(me, row, out, ok, &n), log)
	})
}

// rows are what bodies do.
var rows = [][]api.Access{
	{},
	{{Kind: api.ALoad, Cell: 7}},
	{{Kind: api.AAppend, Data: []byte("abc")}, {Kind: api.ASync}, {Kind: api.ACas, Cell: 9, A: 1, B: 2}},
}

// outs are what bodies answer.
var outs = []api.Out{
	{},
	{Is: true},
	{Err: api.ErrNone, Is: true, N: -4, W: math.MaxUint64, List: []int{3, 1, 2}},
	{Err: api.ErrSealed},
	{Err: api.ErrIO, N: 1},
}

// TestIn: what is not sealed is entered, and left; the answer is the body's
// (P14.6).
func TestIn(t *testing.T) {
	for _, me := range []int{0, 1, 63} {
		for _, e := range []uint64{0, 1, 1 << 40, math.MaxUint64 - 1} {
			for _, row := range rows {
				for _, out := range outs {
					x := tale{out: out}
					x.inside(me, e, row)
					x.store(8+me, 0)
					x.ins(t, 1, me, row, out, true)
				}
			}
		}
	}
}

// TestInFails: if the body tells no, the store is sealed, ahead of being left; what
// the body answers counts for nothing (P14.6).
func TestInFails(t *testing.T) {
	for _, me := range []int{0, 1, 63} {
		for _, e := range []uint64{0, 1, 1 << 40, math.MaxUint64 - 1} {
			for _, row := range rows {
				for _, out := range outs {
					x := tale{out: api.Out{Err: api.ErrIO}}
					x.inside(me, e, row)
					x.store(7, 1)
					x.store(8+me, 0)
					x.ins(t, 1, me, row, out, false)
				}
			}
		}
	}
}

// TestInSealed: what is sealed, by whatever word, is not entered (P14.6).
func TestInSealed(t *testing.T) {
	for _, seal := range numbers[1:] {
		for _, ok := range []bool{false, true} {
			for _, out := range outs {
				x := tale{out: api.Out{Err: api.ErrSealed}}
				x.load(7, seal)
				x.ins(t, 0, 1, rows[2], out, ok)
			}
		}
	}
}

// TestInWorld: where the disk fails, the store is sealed for all that come later;
// what is under way comes to its end (P14.6).
func TestInWorld(t *testing.T) {
	for _, bad := range []int{api.AAppend, api.ASync} {
		w := world(t, 2, 1)
		failing := false
		fails := func(kind int) bool { return failing && kind == bad }
		mine, other := on(&w, 0, fails), on(&w, 1, nil)
		saving := func() (api.Out, bool) {
			Make(mine, 2, 1, api.Entry{Key: 5 << 31}, 0)
			return api.Out{Is: true}, Save(mine, 2, 1, api.BBirth)
		}
		if out := In(mine, 0, saving); !sameOut(out, api.Out{Is: true}) || w.Mem.Word[7] != 0 {
			t.Fatal(out, w)
		}
		failing = true
		out := In(other, 1, func() (api.Out, bool) {
			if out := In(mine, 0, saving); !sameOut(out, api.Out{Err: api.ErrIO}) || w.Mem.Word[7] != 1 || w.Mem.Word[8] != 0 || w.Mem.Word[9] == 0 {
				t.Fatal(out, w)
			}
			return api.Out{N: 7}, Save(other, 2, 1, api.BBirth)
		})
		if !sameOut(out, api.Out{N: 7}) || w.Mem.Word[8] != 0 || w.Mem.Word[9] != 0 || w.Mem.Word[fieldAt(2, 1, flagWord)] != 2<<2+1 {
			t.Fatal(out, w)
		}
		failing = false
		for me := range 2 {
			if out := In(on(&w, me, nil), me, saving); !sameOut(out, api.Out{Err: api.ErrSealed}) || w.Mem.Word[2] != 2 {
				t.Fatal(out, w)
			}
		}
	}
}

// TestNextOther: of any other kind, also of those of other chapters, there is no
// access, whatever is told, and the answer is ErrArg alone (P14.7).
func TestNextOther(t *testing.T) {
	l := []int{math.MinInt, math.MinInt + 20, math.MinInt32, -20, -7, -1, 256 + 20, 256 + 7, 1<<32 + 21, 1<<32 + 7, math.MaxInt}
	for kind := range 40 {
		if !slices.Contains(mine, kind) {
			l = append(l, kind)
		}
	}
	var log []api.Result
	for k := range 7 {
		log = append(log, api.Result{N: uint64(k) % 3, Fail: k == 4})
	}
	for _, kind := range l {
		for _, op := range []api.Op{{Kind: kind}, {Kind: kind, U: 1, V: 1, W: 1}, {Kind: kind, U: -1, V: math.MaxInt, W: math.MaxUint64}} {
			for k := range log {
				x := tale{log: log[:k], out: api.Out{Err: api.ErrArg}}
				x.goes(t, 2, 3, 1, op)
			}
		}
	}
}

// TestNextAlike: who asks, how many records there are, and what an operation has
// beside what its kind takes, count for nothing (P14.7, R4).
func TestNextAlike(t *testing.T) {
	made, alive, set, save, dead := tale{out: api.Out{W: 8}}, tale{out: api.Out{Is: true}}, tale{}, tale{out: api.Out{Is: true}}, tale{out: api.Out{Is: true}}
	made.made(2, 3, 7, api.Entry{Key: 5}, 0)
	alive.load(fieldAt(2, 3, nextWord), 4)
	alive.load(fieldAt(2, 3, flagWord), 6<<2)
	set.tries(2, 3, api.BDeath, []uint64{6 << 2, 6<<2 + 1}, 0, 1)
	for _, x := range []*tale{&save, &dead} {
		x.load(fieldAt(2, 3, flagWord), 6<<2+1)
		x.entry(2, 3, api.BDeath, 6<<2+1, births[0], true, api.Result{})
		x.sync(api.Result{})
		x.tries(2, 3, api.BDeath, []uint64{6<<2 + 1}, 0, 1)
	}
	for _, c := range []int{3, 4, 65536} {
		for _, n := range []int{math.MinInt, -1, 0, 1, 2, 3, 65536, math.MaxInt} {
			for me := range 2 {
				for range 2 {
					made.goes(t, 2, c, me, api.Op{Kind: api.OMake, U: 3, V: n, W: 5})
					alive.goes(t, 2, c, me, api.Op{Kind: api.OAlive, U: 3, V: n, W: 6})
					set.goes(t, 2, c, me, api.Op{Kind: api.OSet, U: 3, V: 2, W: uint64(n)})
					save.goes(t, 2, c, me, api.Op{Kind: api.OSave, U: 3, V: 2, W: uint64(n)})
					dead.goes(t, 2, c, me, api.Op{Kind: api.ODead, U: 3, V: n, W: 6})
				}
			}
		}
	}
}

// TestStrange: of whatever record, bit and stamp, an operation asks, or answers,
// and doesn't do both.
func TestStrange(t *testing.T) {
	strange := []int{math.MinInt, math.MinInt32, -65537, -1, 0, 1, 2, 3, 4, 65537, 1 << 40, math.MaxInt}
	log := make([]api.Result, 12)
	for _, kind := range mine {
		for _, u := range strange {
			for _, v := range strange {
				for k := range log {
					a, out, done := Next(2, 3, 0, api.Op{Kind: kind, U: u, V: v, W: uint64(u * v)}, log[:k])
					if !done && !sameOut(out, api.Out{}) || done && !sameAccess(a, api.Access{}) {
						t.Fatal(kind, u, v, k, a, out, done)
					}
				}
			}
		}
	}
}

// TestNobody: where nobody makes accesses, or there is no body, each call ends.
func TestNobody(t *testing.T) {
	for _, bit := range append(both, 0, 3, -1) {
		Set(nil, 1, 1, bit)
		Save(nil, 1, 1, bit)
	}
	Alive(nil, 1, 1, 1)
	Dead(nil, 1, 1, 0)
	Make(nil, 1, 1, api.Entry{}, 0)
	In(nil, 0, nil)
	w := world(t, 1, 1)
	In(on(&w, 0, nil), 0, nil)
	if out := In(nil, 0, func() (api.Out, bool) { return outs[2], true }); !sameOut(out, outs[2]) {
		t.Error(out)
	}
}

// TestUnwritten: what is handed in is as it was, and what came out stays, whatever
// is done with what comes out later (R3).
func TestUnwritten(t *testing.T) {
	log := []api.Result{{N: 4, B: []byte("ab")}, {B: []byte("cd")}, {B: []byte("ef")}, {}, {}, {}, {}, {N: 4}, {N: 1}}
	var came [][]byte
	for range 2 {
		for k := range log {
			for kind := range 26 {
				a, _, _ := Next(2, 2, 0, api.Op{Kind: kind, U: 1, V: 1, W: 1}, log[:k])
				if a.Kind == api.AAppend && kind == api.OSave {
					came = append(came, bytes.Clone(a.Data))
					clear(a.Data)
				}
			}
		}
	}
	if len(came) != 2 || !bytes.Equal(came[0], came[1]) || !bytes.Equal(came[0], frameOf(1, 1, 0, 0, 0, 0)) {
		t.Error("what came out is turned:", came)
	}
	if log[0].N != 4 || string(log[0].B)+string(log[1].B)+string(log[2].B) != "abcdef" || log[7].N != 4 || log[8].N != 1 {
		t.Error("what was handed in is turned:", log)
	}
}

// TestPlayed: played by Run as parts of another program, entered and left, calls
// are left and gone on with as any others (P14.6, P14.7).
func TestPlayed(t *testing.T) {
	prog := func(do api.Do) api.Out {
		return In(do, 1, func() (api.Out, bool) {
			var out api.Out
			out.W = Make(do, 2, 3, api.Entry{Key: 1, SU: 4, SV: 5, W: 6}, 2+3<<20)
			ok := Save(do, 2, 3, api.BBirth)
			out.Is = Alive(do, 2, 3, out.W)
			Set(do, 2, 3, api.BDeath)
			return out, ok && Dead(do, 2, 1, 4)
		})
	}
	for way := range 2 {
		x := tale{out: api.Out{Is: true, W: 10}}
		x.inside(1, 6, nil)
		x.made(2, 3, 9, api.Entry{Key: 1, SU: 4, SV: 5, W: 6}, 2+3<<20)
		x.load(fieldAt(2, 3, flagWord), 10<<2)
		x.entry(2, 3, api.BBirth, 10<<2, [4]uint64{1, 4, 5, 6}, true, api.Result{})
		x.sync(api.Result{})
		x.tries(2, 3, api.BBirth, []uint64{10 << 2}, 0, 1)
		x.load(fieldAt(2, 3, nextWord), 8)
		x.load(fieldAt(2, 3, flagWord), 10<<2+1)
		x.tries(2, 3, api.BDeath, []uint64{10<<2 + 1}, 0, 1)
		x.load(fieldAt(2, 1, flagWord), 4<<2)
		x.entry(2, 1, api.BDeath, 4<<2, births[0], true, api.Result{Fail: way == 1})
		if way == 0 {
			x.sync(api.Result{})
			x.tries(2, 1, api.BDeath, []uint64{4 << 2}, 0, 1)
		} else {
			x.store(7, 1)
			x.out = api.Out{Err: api.ErrIO}
		}
		x.store(9, 0)
		x.plays(t, func(log []api.Result) (api.Access, api.Out, bool) { return play.Run(prog, log) })
	}
}
