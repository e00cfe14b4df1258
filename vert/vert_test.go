package vert

import (
	"bytes"
	"encoding/binary"
	"hash/crc32"
	"math"
	"slices"
	"testing"

	"weald/access"
	"weald/api"
	"weald/cell"
	"weald/disk"
)

// mine are the kinds of the chapter's operations.
var mine = []int{api.OAddV, api.ORemV, api.OHasV}

// otherKinds are those of no operation of the chapter.
func otherKinds() []int {
	l := []int{math.MinInt, math.MinInt + 11, math.MinInt32, -13, -12, -11, -1, 256 + 11, 256 + 13, 1<<32 + 12, math.MaxInt}
	for kind := range 40 {
		if !slices.Contains(mine, kind) {
			l = append(l, kind)
		}
	}
	return l
}

// A record's words, by their places.
const (
	nextWord = iota
	keyWord
	flagWord
	endsWord
	uWord
	vWord
	weightWord
	linkWord
)

// fieldAt is the place of a record's word.
func fieldAt(t, r, f int) int { return 8 + t + 8*(r-1) + f }

// nextAt is the place of what follows a record: of 0 the list's beginning.
func nextAt(t, r int) int {
	if r == 0 {
		return 0
	}
	return fieldAt(t, r, nextWord)
}

// refOf is a next word's reference; to is a next word that isn't marked.
func refOf(w uint64) int { return int(w / 2 % (1 << 20)) }

func to(r int) uint64 { return uint64(2 * r) }

// framed are the bytes of an entry: its length, its check, its kind, and its numbers.
func framed(kind byte, numbers ...uint64) []byte {
	body := []byte{kind}
	for _, n := range numbers {
		body = binary.LittleEndian.AppendUint64(body, n)
	}
	b := binary.LittleEndian.AppendUint16(nil, uint16(len(body)))
	b = binary.LittleEndian.AppendUint32(b, crc32.ChecksumIEEE(body))
	return append(b, body...)
}

// sameAccess: are two accesses the same? (Two lists are, if their elements are.)
func sameAccess(a, b api.Access) bool {
	return a.Kind == b.Kind && a.Cell == b.Cell && a.A == b.A && a.B == b.B && bytes.Equal(a.Data, b.Data) && slices.Equal(a.Word, b.Word)
}

// sameOut: are two answers the same?
func sameOut(a, b api.Out) bool {
	return a.Err == b.Err && a.Is == b.Is && a.N == b.N && a.W == b.W && slices.Equal(a.List, b.List)
}

// world is a new world.
func world(t *testing.T, n, c int) api.World {
	t.Helper()
	m, e := cell.New(n, c)
	d, f := disk.New(n)
	if e != api.OK || f != api.OK {
		t.Fatal(e, f)
	}
	return api.World{Mem: m, Disk: d}
}

// played plays an operation on a world to its end; the disk fails at those of its
// accesses that are told: the world, the answer, and what it asked.
func played(t *testing.T, w api.World, me int, op api.Op, fails ...int) (api.World, api.Out, []api.Access) {
	t.Helper()
	var log []api.Result
	var asks []api.Access
	for i := range 10000 {
		a, out, done := Next(w.Mem.T, w.Mem.C, me, op, log)
		if done {
			return w, out, asks
		}
		var r api.Result
		w, r = access.Do(w, me, a, slices.Contains(fails, i))
		log, asks = append(log, r), append(asks, a)
	}
	t.Fatal("no end:", op)
	return w, api.Out{}, nil
}

// addOf, removeOf and hasOf are the operations of a vertex.
func addOf(u int) api.Op { return api.Op{Kind: api.OAddV, U: u} }

func removeOf(u int) api.Op { return api.Op{Kind: api.ORemV, U: u} }

func hasOf(u int) api.Op { return api.Op{Kind: api.OHasV, U: u} }

// TestExample: that of the chapter (P16.1 to P16.3).
func TestExample(t *testing.T) {
	w := world(t, 1, 1)
	for i, x := range []struct {
		op api.Op
		is bool
	}{{addOf(3), true}, {addOf(3), false}, {hasOf(3), true}, {removeOf(3), true}, {hasOf(3), false}} {
		var out api.Out
		if w, out, _ = played(t, w, 0, x.op); !sameOut(out, api.Out{Is: x.is}) {
			t.Error(i, out)
		}
	}
}

// load, store, cas, count, appends and syncs are the accesses that an operation makes.
func load(i int) api.Access { return api.Access{Kind: 0, Cell: i} }

func store(i int, n uint64) api.Access { return api.Access{Kind: 1, Cell: i, A: n} }

func cas(i int, a, b uint64) api.Access { return api.Access{Kind: 2, Cell: i, A: a, B: b} }

func count() api.Access { return api.Access{Kind: 3, Cell: 2, A: 1} }

func appends(b []byte) api.Access { return api.Access{Kind: 5, Data: b} }

func syncs() api.Access { return api.Access{Kind: 6} }

// line is an operation of a row that is played on one world, what fails of it, all
// that it asks, and what it answers.
type line struct {
	op    api.Op
	fails []int
	asks  []api.Access
	out   api.Out
}

// plays plays the operations of a row, by the second of two threads.
func plays(t *testing.T, w api.World, l []line) api.World {
	t.Helper()
	for i, x := range l {
		var out api.Out
		var asks []api.Access
		w, out, asks = played(t, w, 1, x.op, x.fails...)
		if !slices.EqualFunc(asks, x.asks, sameAccess) || !sameOut(out, x.out) {
			t.Fatalf("%d: %v asks\n%v, not\n%v, and answers %v, not %v", i, x.op, asks, x.asks, out, x.out)
		}
	}
	return w
}

// in are the accesses of one who comes in, does what is told, and goes out.
func in(l ...api.Access) []api.Access {
	return slices.Concat([]api.Access{load(7), load(3), store(9, 1)}, l, []api.Access{store(9, 0)})
}

// TestEachAccess: on a memory for two threads, of three records (at 10, 18 and 26),
// each access is the one that the chapter tells (P16.1 to P16.3).
func TestEachAccess(t *testing.T) {
	birth, death := framed(1, 1, 3<<31, 0, 0, 0), framed(2, 1)
	second := framed(1, 2, 1<<31, 0, 0, 0)
	plays(t, world(t, 2, 3), []line{
		{removeOf(3), nil, in(load(0)), api.Out{}},
		{hasOf(3), nil, in(load(0)), api.Out{}},
		{addOf(3), nil, in(load(0),
			load(1), load(17), cas(1, 1, 2+1<<20),
			count(), store(12, 4), store(11, 3<<31), store(13, 0), store(14, 0), store(15, 0), store(16, 0),
			load(0), store(10, 0), cas(0, 0, 2),
			load(12), load(11), load(14), load(15), load(16), appends(birth), syncs(), load(12), cas(12, 4, 5)), api.Out{Is: true}},
		{addOf(3), nil, in(load(0), load(10), load(11), load(12)), api.Out{}},
		{hasOf(3), nil, in(load(0), load(11), load(10), load(12)), api.Out{Is: true}},
		{hasOf(2), nil, in(load(0), load(11)), api.Out{}},
		{hasOf(4), nil, in(load(0), load(11), load(10)), api.Out{}},
		{removeOf(4), nil, in(load(0), load(10), load(11)), api.Out{}},
		{addOf(1), nil, in(load(0), load(10), load(11),
			load(1), load(25), cas(1, 2+1<<20, 3+2<<20),
			count(), store(20, 8), store(19, 1<<31), store(21, 0), store(22, 0), store(23, 0), store(24, 0),
			load(0), load(10), load(11), store(18, 2), cas(0, 2, 4),
			load(20), load(19), load(22), load(23), load(24), appends(second), syncs(), load(20), cas(20, 8, 9)), api.Out{Is: true}},
		{removeOf(3), nil, in(load(0), load(18), load(19), load(10), load(11), load(10), cas(10, 0, 1),
			load(12), load(12), appends(death), syncs(), load(12), cas(12, 5, 7),
			load(0), load(18), load(19), load(10), load(12), cas(18, 2, 0), load(3), load(4), store(17, 0), cas(4, 0, 1)), api.Out{Is: true}},
		{hasOf(3), nil, in(load(0), load(19), load(18)), api.Out{}},
	})
}

// marked is a world with a vertex (3) that is marked, and neither born nor dead, as
// its flag says.
func marked(t *testing.T) api.World {
	t.Helper()
	w := world(t, 2, 1)
	w.Mem.Word[0], w.Mem.Word[1], w.Mem.Word[2] = 2, 0, 7
	w.Mem.Word[10], w.Mem.Word[11], w.Mem.Word[12] = 1, 3<<31, 7<<2
	return w
}

// TestEachAccessMarked: so it is where a record is marked: one who asks makes its
// death durable, and leaves it; others take it out (P16.1 to P16.3).
func TestEachAccessMarked(t *testing.T) {
	death := []api.Access{load(12), appends(framed(2, 7)), syncs(), load(12), cas(12, 28, 30)}
	asked := line{hasOf(3), nil, in(slices.Concat([]api.Access{load(0), load(11), load(10)}, death)...), api.Out{}}
	again := line{hasOf(3), nil, in(load(0), load(11), load(10), load(12)), api.Out{}}
	takes := slices.Concat([]api.Access{load(0), load(10)}, death, []api.Access{cas(0, 2, 0), load(3), load(4), store(17, 0), cas(4, 0, 1)})
	removed := line{removeOf(3), nil, in(takes...), api.Out{}}
	plays(t, marked(t), []line{asked, again})
	plays(t, marked(t), []line{removed})
	w := marked(t)
	w.Mem.Word[8] = 9
	full := []api.Access{load(1), load(3), store(9, 1), load(3), load(8), load(1), load(3), store(9, 1), load(3), load(8), load(1), load(3), store(9, 1), load(3), load(8), load(1)}
	plays(t, w, []line{{addOf(3), nil, in(append(takes, full...)...), api.Out{Err: api.ErrFull}}})
}

// TestEachAccessFails: where the disk fails, the store is sealed, and left (P16.1 to
// P16.3).
func TestEachAccessFails(t *testing.T) {
	append7, sealed := appends(framed(2, 7)), []api.Access{store(7, 1), store(9, 0)}
	failed := api.Out{Err: api.ErrIO}
	out := line{hasOf(3), nil, []api.Access{load(7)}, api.Out{Err: api.ErrSealed}}
	begin := []api.Access{load(7), load(3), store(9, 1), load(0)}
	fails := func(l ...api.Access) []api.Access { return slices.Concat(begin, l, sealed) }
	plays(t, marked(t), []line{{hasOf(3), []int{7}, fails(load(11), load(10), load(12), append7), failed}, out})
	plays(t, marked(t), []line{{hasOf(3), []int{8}, fails(load(11), load(10), load(12), append7, syncs()), failed}, out})
	for _, op := range []api.Op{addOf(3), removeOf(3), addOf(1<<30 - 1), removeOf(9)} {
		plays(t, marked(t), []line{{op, []int{6}, fails(load(10), load(12), append7), failed}, out})
		plays(t, marked(t), []line{{op, []int{7}, fails(load(10), load(12), append7, syncs()), failed}, out})
	}
	w := marked(t)
	w.Mem.Word[10] = 0
	birth := []api.Access{load(12), load(11), load(14), load(15), load(16), appends(framed(1, 7, 3<<31, 0, 0, 0))}
	plays(t, w, []line{{hasOf(3), []int{11}, fails(append([]api.Access{load(11), load(10)}, birth...)...), failed}, out})
	plays(t, w, []line{{addOf(3), []int{11}, fails(append([]api.Access{load(10), load(11)}, birth...)...), failed}, out})
	plays(t, w, []line{{removeOf(3), []int{10}, fails(load(10), load(11), load(10), cas(10, 0, 1), load(12), load(12), append7), failed}, out})
}

// TestKeys: of what is no vertex an operation makes no access, whatever is told, also
// where the store is sealed; of each vertex it comes in (P16.4).
func TestKeys(t *testing.T) {
	for _, kind := range mine {
		for _, u := range []int{math.MinInt, math.MinInt32, -1 << 30, -2, -1, 1 << 30, 1<<30 + 1, 1 << 31, 1 << 32, 1<<32 + 3, math.MaxInt} {
			for _, log := range [][]api.Result{nil, {{N: 1}}, {{}, {}, {N: 2}, {Fail: true}}} {
				a, out, done := Next(2, 3, 0, api.Op{Kind: kind, U: u}, log)
				if !sameAccess(a, api.Access{}) || !sameOut(out, api.Out{Err: api.ErrKey}) || !done {
					t.Error(kind, u, log, a, out, done)
				}
			}
		}
		for _, u := range []int{0, 1, 3, 1<<30 - 2, 1<<30 - 1} {
			a, out, done := Next(2, 3, 0, api.Op{Kind: kind, U: u}, nil)
			if !sameAccess(a, load(7)) || !sameOut(out, api.Out{}) || done {
				t.Error(kind, u, a, out, done)
			}
		}
	}
}

// TestKeysWhole: the first and the last vertex are vertices as any others (P16.1 to
// P16.3).
func TestKeysWhole(t *testing.T) {
	w := world(t, 1, 2)
	for _, u := range []int{0, 1<<30 - 1} {
		for i, op := range []api.Op{hasOf(u), addOf(u), addOf(u), hasOf(u), removeOf(u), removeOf(u), hasOf(u), addOf(u)} {
			var out api.Out
			is := []bool{false, true, false, true, true, false, false, true}[i]
			if w, out, _ = played(t, w, 0, op); !sameOut(out, api.Out{Is: is}) {
				t.Error(op, out)
			}
		}
	}
}

// TestSealed: what is sealed, by whatever word, is not entered (P16.1 to P16.3).
func TestSealed(t *testing.T) {
	for _, kind := range mine {
		for _, seal := range []uint64{1, 2, 1 << 63, math.MaxUint64} {
			for _, log := range [][]api.Result{{{N: seal}}, {{N: seal}, {N: 1}, {N: 2}}} {
				a, out, done := Next(2, 3, 0, api.Op{Kind: kind, U: 3}, log)
				if !sameAccess(a, api.Access{}) || !sameOut(out, api.Out{Err: api.ErrSealed}) || !done {
					t.Error(kind, seal, a, out, done)
				}
			}
		}
	}
}

// TestNextOther: of any other kind, also of those of other chapters, there is no
// access, whatever is told, and the answer is ErrArg alone, also of what is no vertex
// (P16.4).
func TestNextOther(t *testing.T) {
	var log []api.Result
	for k := range 7 {
		log = append(log, api.Result{N: uint64(k) % 3, Fail: k == 4})
	}
	for _, kind := range otherKinds() {
		for _, op := range []api.Op{{Kind: kind}, {Kind: kind, U: 1, V: 1, W: 1}, {Kind: kind, U: -1, V: math.MaxInt, W: math.MaxUint64}, {Kind: kind, U: 1 << 30}} {
			for k := range log {
				a, out, done := Next(2, 3, 1, op, log[:k])
				if !sameAccess(a, api.Access{}) || !sameOut(out, api.Out{Err: api.ErrArg}) || !done {
					t.Fatal(op, k, a, out, done)
				}
			}
		}
	}
}

// TestStrange: whatever is told, by whomever, an operation asks, or answers, and
// doesn't do both; and it is the same each time (P16.4, R1, R4).
func TestStrange(t *testing.T) {
	random := lcg(5)
	words := []uint64{0, 1, 2, 3, 4, 5, 6, 7, 3 << 31, 4 << 31, 1 << 20, 1<<21 - 1, 1<<63 + 5, math.MaxUint64}
	for range 30000 {
		log := make([]api.Result, random(60))
		for i := range log {
			log[i] = api.Result{N: words[random(len(words))], Fail: random(30) == 0}
			if random(4) == 0 {
				log[i].N = uint64(random(1<<30)) << random(34)
			}
		}
		if len(log) > 0 && random(8) > 0 {
			log[0].N = 0
		}
		op := api.Op{Kind: mine[random(3)], U: random(5), V: random(9), W: words[random(len(words))]}
		n := 1 + random(64)
		me, c := random(n), random(65537)
		a, out, done := Next(n, c, me, op, log)
		if !done && !sameOut(out, api.Out{}) || done && !sameAccess(a, api.Access{}) {
			t.Fatal(op, log, a, out, done)
		}
		b, twice, over := Next(n, 65536-c, me, api.Op{Kind: op.Kind, U: op.U}, log)
		if !sameAccess(a, b) || !sameOut(out, twice) || done != over {
			t.Fatal(op, log, a, out, done, "and then", b, twice, over)
		}
	}
}

// TestUnwritten: what is handed in is as it was, and what came out stays, whatever is
// done with what comes out later (R3).
func TestUnwritten(t *testing.T) {
	log := []api.Result{{B: []byte("ab")}, {N: 4}, {}, {N: 2}, {N: 3 << 31, B: []byte("cd")}, {N: 0}, {N: 4}, {N: 3 << 31}, {}, {}, {}}
	var came [][]byte
	for range 2 {
		for k := range len(log) + 1 {
			for kind := range 26 {
				a, _, _ := Next(2, 2, 0, api.Op{Kind: kind, U: 3}, log[:k])
				if a.Kind == api.AAppend {
					came = append(came, bytes.Clone(a.Data))
					clear(a.Data)
				}
			}
		}
	}
	if len(came) != 2 || !bytes.Equal(came[0], came[1]) || !bytes.Equal(came[0], framed(1, 1, 3<<31, 0, 0, 0)) {
		t.Error("what came out is turned:", came)
	}
	if log[1].N != 4 || log[3].N != 2 || log[4].N != 3<<31 || string(log[0].B)+string(log[4].B) != "abcd" {
		t.Error("what was handed in is turned:", log)
	}
}
