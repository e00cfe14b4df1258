package list

import (
	"bytes"
	"encoding/binary"
	"hash/crc32"
	"math"
	"slices"
	"testing"

	"weald/access"
	"weald/api"
	"weald/cell"
	"weald/disk"
	"weald/play"
)

// threads are how many a memory may be for: few, and the most.
var threads = []int{1, 2, 3, 63, 64}

// mine are the kinds of the chapter's operations.
var mine = []int{api.OSearch, api.OSeek, api.OLink, api.OMark, api.OSweep}

// keys are a vertex's, edges', those at their bounds, and such as are none.
var keys = []uint64{0, 1, 2, 1 << 30, 1<<31 - 1, 1 << 31, 1<<31 + 1, 3<<31 + 7, 1<<61 - 1<<31, 1 << 61, 1 << 63, math.MaxUint64 - 1, math.MaxUint64}

// misses are what a cas is told that isn't done.
var misses = []uint64{0, 2, math.MaxUint64}

// fieldAt is the place of a record's word.
func fieldAt(t, r, f int) int { return 8 + t + 8*(r-1) + f }

// A record's words, by their places.
const (
	nextWord = iota
	keyWord
	flagWord
	endsWord
	uWord
	vWord
	weightWord
	linkWord
)

// nextAt is the place of what follows a record: of 0 the list's beginning.
func nextAt(t, r int) int {
	if r == 0 {
		return 0
	}
	return fieldAt(t, r, nextWord)
}

// to is a next word that isn't marked; marked is one that is.
func to(r int) uint64 { return uint64(2 * r) }

func marked(r int) uint64 { return uint64(2*r + 1) }

// deathOf are the bytes of a death: its length, its check, its kind, and its stamp.
func deathOf(stamp uint64) []byte {
	body := binary.LittleEndian.AppendUint64([]byte{2}, stamp)
	b := binary.LittleEndian.AppendUint16(nil, uint16(len(body)))
	b = binary.LittleEndian.AppendUint32(b, crc32.ChecksumIEEE(body))
	return append(b, body...)
}

// sameAccess: are two accesses the same? (Two lists are, if their elements are.)
func sameAccess(a, b api.Access) bool {
	return a.Kind == b.Kind && a.Cell == b.Cell && a.A == b.A && a.B == b.B && bytes.Equal(a.Data, b.Data) && slices.Equal(a.Word, b.Word)
}

// sameOut: are two answers the same?
func sameOut(a, b api.Out) bool {
	return a.Err == b.Err && a.Is == b.Is && a.N == b.N && a.W == b.W && slices.Equal(a.List, b.List)
}

// tale is what an operation of a memory for n threads asks, and is told, one after
// the other, and what it answers then; and how often a cas was told that it missed.
type tale struct {
	n     int
	asks  []api.Access
	log   []api.Result
	out   api.Out
	count int
}

// tell lays an access, and what it is told, behind those of a tale.
func (x *tale) tell(a api.Access, told api.Result) {
	x.asks = append(x.asks, a)
	x.log = append(x.log, told)
}

// load, store and cas lay one of a word.
func (x *tale) load(i int, told uint64) {
	x.tell(api.Access{Kind: api.ALoad, Cell: i}, api.Result{N: told})
}

func (x *tale) store(i int, n uint64) {
	x.tell(api.Access{Kind: api.AStore, Cell: i, A: n}, api.Result{N: n % 3})
}

func (x *tale) cas(i int, a, b uint64, done bool) {
	told := api.Result{N: 1}
	if !done {
		told.N = misses[x.count%len(misses)]
		x.count++
	}
	x.tell(api.Access{Kind: api.ACas, Cell: i, A: a, B: b}, told)
}

// goes: does an operation ask just what a tale says, told each beginning of its
// log, and answer what it says, whatever of a log is left?
func (x *tale) goes(t *testing.T, c, me int, op api.Op) {
	t.Helper()
	x.plays(t, func(log []api.Result) (api.Access, api.Out, bool) { return Next(x.n, c, me, op, log) })
}

// plays: so it is of what plays anything.
func (x *tale) plays(t *testing.T, run func(log []api.Result) (api.Access, api.Out, bool)) {
	t.Helper()
	for k, want := range x.asks {
		a, out, done := run(x.log[:k])
		if !sameAccess(a, want) || !sameOut(out, api.Out{}) || done {
			t.Fatalf("told %v: %v, %v, %v, not the access %v alone", x.log[:k], a, out, done, want)
		}
	}
	more := append(slices.Clone(x.log), api.Result{N: 1}, api.Result{N: math.MaxUint64, B: []byte("ab"), Fail: true})
	for k := len(x.log); k <= len(more); k++ {
		a, out, done := run(more[:k])
		if !sameAccess(a, api.Access{}) || !sameOut(out, x.out) || !done {
			t.Fatalf("told %v: %v, %v, %v, not the answer %v alone", more[:k], a, out, done, x.out)
		}
	}
}

// do makes a tale's accesses.
func (x *tale) do(t *testing.T, k *int) api.Do {
	return func(a api.Access) api.Result {
		if *k >= len(x.asks) || !sameAccess(a, x.asks[*k]) {
			t.Fatalf("the access %d is %v, not of %v", *k, a, x.asks)
		}
		*k++
		return x.log[*k-1]
	}
}

// called is what a call tells, each of them what it has.
type called struct {
	pred, curr int
	found, ok  bool
}

// calls: does a call that is handed a tale's Do ask just what the tale says, and
// tell what is wanted?
func (x *tale) calls(t *testing.T, want called, call func(do api.Do) called) {
	t.Helper()
	k := 0
	if got := call(x.do(t, &k)); k != len(x.asks) || got != want {
		t.Fatalf("%d accesses, and %v, not %d, and %v", k, got, len(x.asks), want)
	}
}

// searched looks at a tale of a Search, that tells what is wanted.
func (x *tale) searched(t *testing.T, k uint64, want called) {
	t.Helper()
	x.out = api.Out{Err: api.ErrIO}
	if want.ok {
		x.out = api.Out{N: want.curr, W: uint64(want.pred), Is: want.found}
	}
	x.goes(t, 65536, 0, api.Op{Kind: api.OSearch, U: 3, V: 4, W: k})
	x.calls(t, want, func(do api.Do) called {
		pred, curr, found, ok := Search(do, x.n, k)
		return called{pred, curr, found, ok}
	})
}

// sought looks at a tale of a Seek.
func (x *tale) sought(t *testing.T, from int, k uint64, want called) {
	t.Helper()
	x.out = api.Out{N: want.curr, Is: want.found}
	x.goes(t, 65536, 0, api.Op{Kind: api.OSeek, U: from, V: 4, W: k})
	x.calls(t, want, func(do api.Do) called {
		curr, found := Seek(do, x.n, from, k)
		return called{curr: curr, found: found}
	})
}

// swept looks at a tale of a Sweep.
func (x *tale) swept(t *testing.T, stamp uint64, ok bool) {
	t.Helper()
	x.out = api.Out{}
	if !ok {
		x.out.Err = api.ErrIO
	}
	x.goes(t, 65536, 0, api.Op{Kind: api.OSweep, U: 3, V: 4, W: stamp})
	x.calls(t, called{ok: ok}, func(do api.Do) called { return called{ok: Sweep(do, x.n, stamp)} })
}

// begins lays that of the beginning of a walk.
func (x *tale) begins(first uint64) { x.load(0, first) }

// passes lays those of a record that isn't marked, whose key is asked.
func (x *tale) passes(r int, next, k uint64) {
	x.load(fieldAt(x.n, r, nextWord), next)
	x.load(fieldAt(x.n, r, keyWord), k)
}

// passesEdge lays those of an edge's record, whose ends' stamps are asked too.
func (x *tale) passesEdge(r int, next, k, su, sv uint64) {
	x.passes(r, next, k)
	x.load(fieldAt(x.n, r, uWord), su)
	x.load(fieldAt(x.n, r, vWord), sv)
}

// saves lays those of a Save of a death that isn't durable yet, in one of four ways:
// by its cas, by a cas behind one that misses, by a bit that another one put, and
// of a record that is another one by then.
func (x *tale) saves(r int, stamp uint64, way int) {
	at, f := fieldAt(x.n, r, flagWord), stamp<<2+uint64(way)%2
	x.load(at, f)
	x.tell(api.Access{Kind: api.AAppend, Data: deathOf(stamp)}, api.Result{N: 7, B: []byte("ab")})
	x.tell(api.Access{Kind: api.ASync}, api.Result{})
	switch way {
	case 0:
		x.load(at, f)
		x.cas(at, f, f+2, true)
	case 1:
		x.load(at, f)
		x.cas(at, f, f+2, false)
		x.load(at, f&^1)
		x.cas(at, f&^1, f&^1+2, true)
	case 2:
		x.load(at, f+2)
	case 3:
		x.load(at, f+4)
	}
}

// saved lays those of a Save of a death that is durable.
func (x *tale) saved(r int, stamp uint64) { x.load(fieldAt(x.n, r, flagWord), stamp<<2+3) }

// dies lays those of a Save of a death: it is durable (4), or comes to be so (less).
func (x *tale) dies(r, way int) {
	if stamp := uint64(r + 40); way == 4 {
		x.saved(r, stamp)
	} else {
		x.saves(r, stamp, way)
	}
}

// fails lays those of a Save of a death whose Append, or Sync, fails.
func (x *tale) fails(r int, sync bool) {
	fail := api.Result{N: 1, Fail: true}
	x.load(fieldAt(x.n, r, flagWord), 9<<2+1)
	told := fail
	if sync {
		told = api.Result{}
	}
	x.tell(api.Access{Kind: api.AAppend, Data: deathOf(9)}, told)
	if sync {
		x.tell(api.Access{Kind: api.ASync}, fail)
	}
}

// retires lays those of a Retire in an epoch, by the limbo's words, of which but the
// last one turns away.
func (x *tale) retires(r int, e uint64, limbo ...uint64) {
	x.load(3, e)
	for i, h := range limbo {
		x.load(4+int(e%3), h)
		x.store(fieldAt(x.n, r, linkWord), h)
		x.cas(4+int(e%3), h, uint64(r), i == len(limbo)-1)
	}
}

// takes lays those of a record that is marked, and taken out behind another one.
func (x *tale) takes(p, r int, next uint64, way int) {
	x.load(fieldAt(x.n, r, nextWord), next)
	x.dies(r, way)
	x.cas(nextAt(x.n, p), to(r), next>>1%(1<<20)<<1, true)
	x.retires(r, uint64(way+r), slices.Repeat([]uint64{uint64(7 * r)}, 1+way%3)...)
}

// leaves lays those of a record that is marked, and can't be taken out, as what is
// ahead of it was turned.
func (x *tale) leaves(p, r int, next uint64, way int) {
	x.load(fieldAt(x.n, r, nextWord), next)
	x.dies(r, way)
	x.cas(nextAt(x.n, p), to(r), next>>1%(1<<20)<<1, false)
}

// kills lays those of an edge's record that a Sweep marks; and of its death's bit, as
// Set puts it: by its cas, by one behind one that misses, or by another one's.
func (x *tale) kills(r int, next uint64, way int) {
	at, f := fieldAt(x.n, r, flagWord), uint64(r+40)<<2+uint64(way)%2
	x.cas(fieldAt(x.n, r, nextWord), next, next+1, true)
	switch way {
	case 0:
		x.load(at, f)
		x.cas(at, f, f+2, true)
	case 1:
		x.load(at, f)
		x.cas(at, f, f+2, false)
		x.load(at, f+4)
		x.cas(at, f+4, f+6, true)
	case 2:
		x.load(at, f+2)
	}
}

// world is a new world.
func world(t *testing.T, n, c int) api.World {
	t.Helper()
	m, e := cell.New(n, c)
	d, f := disk.New(n)
	if e != api.OK || f != api.OK {
		t.Fatal(e, f)
	}
	return api.World{Mem: m, Disk: d}
}

// alone plays an operation on a world to its end.
func alone(t *testing.T, w api.World, me int, op api.Op) (api.World, api.Out) {
	t.Helper()
	var log []api.Result
	for range 10000 {
		a, out, done := Next(w.Mem.T, w.Mem.C, me, op, log)
		if done {
			return w, out
		}
		var r api.Result
		w, r = access.Do(w, me, a, false)
		log = append(log, r)
	}
	t.Fatal("no end:", op)
	return w, api.Out{}
}

// asked plays an operation on a world, and looks at its answer.
func asked(t *testing.T, w api.World, op api.Op, want api.Out) api.World {
	t.Helper()
	w, out := alone(t, w, 0, op)
	if !sameOut(out, want) {
		t.Fatal(op, "answers", out, "not", want)
	}
	return w
}

// TestExample: that of the chapter (P15.1, P15.3, P15.5).
func TestExample(t *testing.T) {
	for _, n := range threads {
		w := world(t, n, 1)
		w.Mem.Word[fieldAt(n, 1, keyWord)] = 5
		w = asked(t, w, api.Op{Kind: api.OSearch, W: 5}, api.Out{})
		w = asked(t, w, api.Op{Kind: api.OLink, U: 0, V: 0, W: 1}, api.Out{Is: true})
		for range 2 {
			w = asked(t, w, api.Op{Kind: api.OSearch, W: 5}, api.Out{N: 1, W: 0, Is: true})
			w = asked(t, w, api.Op{Kind: api.OSearch, W: 4}, api.Out{N: 1, W: 0})
			w = asked(t, w, api.Op{Kind: api.OSearch, W: 6}, api.Out{N: 0, W: 1})
			w = asked(t, w, api.Op{Kind: api.OSeek, W: 5}, api.Out{N: 1, Is: true})
		}
		w = asked(t, w, api.Op{Kind: api.OMark, U: 1}, api.Out{Is: true})
		w = asked(t, w, api.Op{Kind: api.OMark, U: 1}, api.Out{})
		w = asked(t, w, api.Op{Kind: api.OSeek, W: 5}, api.Out{N: 1, Is: true})
		w = asked(t, w, api.Op{Kind: api.OSearch, W: 5}, api.Out{})
		asked(t, w, api.Op{Kind: api.OSeek, W: 5}, api.Out{})
	}
}

// TestSearchEmpty: of a list without records the head alone is asked (P15.1).
func TestSearchEmpty(t *testing.T) {
	for _, n := range threads {
		for _, k := range keys {
			for _, head := range []uint64{0, 1, 1 << 21, 1<<63 + 1} {
				x := tale{n: n}
				x.begins(head)
				x.searched(t, k, called{ok: true})
			}
		}
	}
}

// item is a record of a list, and its key.
type item struct {
	r   int
	key uint64
}

// itemsOf are records of keys, of small numbers and of great ones.
func itemsOf(l []uint64) []item {
	var all []item
	for j, k := range l {
		all = append(all, item{1 + (j*7919+65535)%65536, k})
	}
	return all
}

// last is the last record of items: 0, if there is none.
func last(l []item) int {
	if len(l) == 0 {
		return 0
	}
	return l[len(l)-1].r
}

// behind is the record that follows the i-th one, of items that another one follows.
func behind(l []item, i, end int) int {
	if i+1 < len(l) {
		return l[i+1].r
	}
	return end
}

// along lays a walk's beginning, along items that aren't marked, and that another
// record follows, or none (0).
func (x *tale) along(l []item, end int) {
	x.begins(to(behind(l, -1, end)))
	for i, y := range l {
		x.passes(y.r, to(behind(l, i, end)), y.key)
	}
}

// TestSearch: it goes along keys that are less, up to one that isn't, or to the
// list's end (P15.1, P15.5).
func TestSearch(t *testing.T) {
	for _, n := range threads {
		for i, k := range keys {
			l := itemsOf(keys[:i])
			x := tale{n: n}
			x.along(l, 0)
			x.searched(t, k, called{pred: last(l), ok: true})
			for _, above := range keys[i:] {
				x := tale{n: n}
				x.along(l, 77)
				x.passes(77, to(3), above)
				x.searched(t, k, called{last(l), 77, above == k, true})
			}
		}
	}
}

// TestSearchAlike: a walk goes by what it finds: keys that are the same, or fall,
// and records that come again, are as any others (P15.1).
func TestSearchAlike(t *testing.T) {
	for _, n := range threads {
		l := []item{{4, 7}, {2, 7}, {4, 3}, {4, 0}, {5, 7}}
		x, y := tale{n: n}, tale{n: n}
		x.along(l, 0)
		x.searched(t, 8, called{pred: 5, ok: true})
		y.along(l, 5)
		y.passes(5, 0, 8)
		y.searched(t, 8, called{5, 5, true, true})
	}
}

// nexts are next words of a record that are marked, one that no record follows, and
// such as have more bits than a link has.
var nexts = []uint64{marked(0), marked(1), marked(65536), marked(1<<20 - 1), 1<<21 + 1, 1<<63 + 1<<40 + marked(5)}

// TestSearchTakes: what is marked is taken out, behind the list's beginning, or
// behind a record: its death is saved, then it is turned away, and retired (P15.1).
func TestSearchTakes(t *testing.T) {
	for _, n := range threads {
		for way := range 5 {
			for i := range 3 {
				l := itemsOf([]uint64{2, 4}[:i])
				for _, next := range nexts {
					x := tale{n: n}
					x.along(l, 9)
					x.takes(last(l), 9, next, way)
					want := called{pred: last(l), ok: true}
					if r := int(next >> 1 % (1 << 20)); r != 0 {
						x.passes(r, to(0), 6)
						want.curr, want.found = r, true
					}
					x.searched(t, 6, want)
				}
			}
		}
	}
}

// TestSearchRow: so it is of many, one behind the other, and of some between others;
// what is marked has no key that is asked (P15.1).
func TestSearchRow(t *testing.T) {
	for _, n := range threads {
		x := tale{n: n}
		x.begins(to(3))
		x.takes(0, 3, marked(5), 0)
		x.takes(0, 5, marked(4), 4)
		x.takes(0, 4, marked(1), 1)
		x.passes(1, to(9), 10)
		x.takes(1, 9, marked(8), 2)
		x.takes(1, 8, marked(2), 3)
		x.passes(2, to(6), 20)
		x.takes(2, 6, marked(7), 4)
		x.passes(7, to(10), 31)
		x.searched(t, 30, called{2, 7, false, true})
		y := tale{n: n, asks: slices.Clone(x.asks), log: slices.Clone(x.log)}
		y.takes(7, 10, marked(0), 0)
		y.searched(t, 32, called{pred: 7, ok: true})
	}
}

// TestSearchAgain: if what is marked can't be turned away, it starts again from the
// beginning, and nothing is retired (P15.1).
func TestSearchAgain(t *testing.T) {
	for _, n := range threads {
		for way := range 5 {
			for i := range 3 {
				l := itemsOf([]uint64{2, 4}[:i])
				for _, next := range nexts {
					x := tale{n: n}
					for again := range 3 {
						x.along(l[:max(0, i-again)], 9)
						x.leaves(last(l[:max(0, i-again)]), 9, next, way)
					}
					x.along(l, 8)
					x.takes(last(l), 8, marked(9), way)
					x.passes(9, to(8), 7)
					x.searched(t, 6, called{last(l), 9, false, true})
				}
			}
		}
	}
}

// TestSearchFails: if a death can't be saved, it isn't ok, and that is all (P15.1,
// P15.5).
func TestSearchFails(t *testing.T) {
	for _, n := range threads {
		for i := range 3 {
			for sync := range 2 {
				l := itemsOf([]uint64{6, 4}[:i])
				x, y := tale{n: n}, tale{n: n}
				x.along(l, 9)
				x.load(fieldAt(n, 9, nextWord), marked(2))
				x.fails(9, sync == 1)
				x.searched(t, 7, called{})
				y.along(l, 9)
				y.leaves(last(l), 9, marked(2), i)
				y.begins(to(8))
				y.passes(8, to(7), 6)
				y.takes(8, 7, marked(6), 0)
				y.load(fieldAt(n, 6, nextWord), marked(0))
				y.fails(6, sync == 1)
				y.searched(t, 7, called{})
			}
		}
	}
}

// seeks lays the accesses of a Seek along items, up to another record, or none (0).
func (x *tale) seeks(from int, l []item, end int) {
	x.load(nextAt(x.n, from), to(behind(l, -1, end)))
	for i, y := range l {
		x.load(fieldAt(x.n, y.r, keyWord), y.key)
		x.load(fieldAt(x.n, y.r, nextWord), to(behind(l, i, end))+uint64(i)%2)
	}
}

// TestSeek: it goes along keys that are less, marked or not, from any record on, and
// turns nothing (P15.2, P15.5).
func TestSeek(t *testing.T) {
	for _, n := range threads {
		for _, from := range []int{0, 1, 5, 65535, 65536} {
			for i, k := range keys {
				l := itemsOf(keys[:i])
				x := tale{n: n}
				x.seeks(from, l, 0)
				x.sought(t, from, k, called{})
				for _, above := range keys[i:] {
					x := tale{n: n}
					x.seeks(from, l, 77)
					x.load(fieldAt(n, 77, keyWord), above)
					x.sought(t, from, k, called{curr: 77, found: above == k})
				}
			}
		}
	}
}

// TestSeekMarked: marks count for nothing, also that of the record it is sought from;
// and of a next word its reference alone counts (P15.2).
func TestSeekMarked(t *testing.T) {
	for _, n := range threads {
		for _, from := range []int{0, 3} {
			for _, next := range nexts {
				x := tale{n: n}
				x.load(nextAt(n, from), next)
				want := called{}
				if r := int(next >> 1 % (1 << 20)); r != 0 {
					x.load(fieldAt(n, r, keyWord), 5)
					x.load(fieldAt(n, r, nextWord), next)
					x.load(fieldAt(n, r, keyWord), 6)
					want = called{curr: r, found: true}
				}
				x.sought(t, from, 6, want)
			}
		}
	}
}

// linkOf and markOf are calls.
func linkOf(n, pred, curr, r int) func(do api.Do) called {
	return func(do api.Do) called { return called{ok: Link(do, n, pred, curr, r)} }
}

func markOf(n, r int) func(do api.Do) called {
	return func(do api.Do) called { return called{ok: Mark(do, n, r)} }
}

// TestLink: what follows the record is stored, and then it is linked, if it may be
// (P15.3, P15.5).
func TestLink(t *testing.T) {
	l := []int{1, 2, 7, 65535, 65536}
	for _, n := range threads {
		for _, r := range l {
			for _, pred := range append(l, 0) {
				for _, curr := range append(l, 0) {
					for _, done := range []bool{true, false} {
						x := tale{n: n, out: api.Out{Is: done}, count: pred + curr}
						x.store(fieldAt(n, r, nextWord), to(curr))
						x.cas(nextAt(n, pred), to(curr), to(r), done)
						x.goes(t, 65536, 0, api.Op{Kind: api.OLink, U: pred, V: curr, W: uint64(r)})
						x.calls(t, called{ok: done}, linkOf(n, pred, curr, r))
					}
				}
			}
		}
	}
}

// TestMark: what isn't marked is, with all else of its next word as it was, if that
// is still the same (P15.3, P15.5).
func TestMark(t *testing.T) {
	for _, n := range threads {
		for _, r := range []int{1, 2, 7, 65535, 65536} {
			for _, next := range append(nexts, 0, 2, to(65536), 1<<21, 1<<63, math.MaxUint64-1, math.MaxUint64) {
				for _, done := range []bool{true, false} {
					x := tale{n: n, count: r}
					x.load(fieldAt(n, r, nextWord), next)
					if next%2 == 0 {
						x.cas(fieldAt(n, r, nextWord), next, next+1, done)
						x.out.Is = done
					}
					x.goes(t, 65536, 0, api.Op{Kind: api.OMark, U: r, V: 9, W: 9})
					x.calls(t, called{ok: x.out.Is}, markOf(n, r))
				}
			}
		}
	}
}

// edge: is a key an edge's?
func edge(k uint64) bool { return k%(1<<31) != 0 }

// TestSweepPasses: vertices aren't asked for their ends, edges are for both; those
// without the stamp stay (P15.4, P15.5).
func TestSweepPasses(t *testing.T) {
	for _, n := range threads {
		for _, stamp := range []uint64{0, 1, 7, 1 << 61} {
			x := tale{n: n}
			l := itemsOf(append(keys, 1<<32, 1<<60, 1<<32-1, 5))
			x.begins(to(l[0].r))
			for i, y := range l {
				if next := to(behind(l, i, 0)); edge(y.key) {
					x.passesEdge(y.r, next, y.key, stamp+uint64(i)+1, stamp-1)
				} else {
					x.passes(y.r, next, y.key)
				}
			}
			x.swept(t, stamp, true)
		}
	}
}

// TestSweepEmpty: of a list without records the head alone is asked (P15.4).
func TestSweepEmpty(t *testing.T) {
	for _, n := range threads {
		for _, head := range []uint64{0, 1, 1 << 21} {
			x := tale{n: n}
			x.begins(head)
			x.swept(t, 5, true)
		}
	}
}

// TestSweep: an edge with the stamp at either end is marked, and its death's bit is
// set; and then the same one is looked at again, and taken out (P15.4).
func TestSweep(t *testing.T) {
	const stamp = 6
	for _, n := range threads {
		for way := range 3 {
			for i, ends := range [][2]uint64{{stamp, 9}, {9, stamp}, {stamp, stamp}} {
				for _, next := range []uint64{0, to(5), to(65536), 1<<63 + to(5)} {
					x := tale{n: n}
					x.begins(to(2))
					x.passes(2, to(4), 1<<31)
					x.passesEdge(4, next, 1<<31+3, ends[0], ends[1])
					x.kills(4, next, way)
					x.takes(2, 4, next+1, 4)
					if r := int(next >> 1 % (1 << 20)); r != 0 {
						x.passesEdge(r, to(8), 1<<31+4, 5, 7)
						x.passesEdge(8, to(0), 1<<31+5, ends[1], ends[0])
						x.kills(8, to(0), (way+i)%3)
						x.takes(r, 8, marked(0), 4)
					}
					x.swept(t, stamp, true)
				}
			}
		}
	}
}

// TestSweepAgain: if its mark can't be put, an edge is looked at again all the same:
// from its next word on, and nothing is set (P15.4).
func TestSweepAgain(t *testing.T) {
	for _, n := range threads {
		for missed := range 4 {
			x, y, z := tale{n: n}, tale{n: n}, tale{n: n}
			for i, p := range []*tale{&x, &y, &z} {
				p.begins(to(4))
				for k := range missed {
					p.passesEdge(4, to(k), 7, 6, uint64(i))
					p.cas(fieldAt(n, 4, nextWord), to(k), marked(k), false)
				}
			}
			x.takes(0, 4, marked(3), 0)
			x.passes(3, to(0), 0)
			x.swept(t, 6, true)
			y.passesEdge(4, to(3), 7, 5, 7)
			y.takes(4, 3, marked(0), 1)
			y.swept(t, 6, true)
			z.passesEdge(4, to(0), 7, 6, 6)
			z.kills(4, to(0), missed%3)
			z.leaves(0, 4, marked(0), 4)
			z.begins(to(1))
			z.passes(1, to(0), 1<<31)
			z.swept(t, 6, true)
		}
	}
}

// TestSweepTakes: what is marked is taken out, as by a Search; if it can't be, it
// starts again from the beginning (P15.4).
func TestSweepTakes(t *testing.T) {
	for _, n := range threads {
		for way := range 5 {
			for i := range 3 {
				l := itemsOf([]uint64{1 << 31, 1 << 32}[:i])
				for _, next := range nexts {
					x := tale{n: n}
					x.along(l, 9)
					x.leaves(last(l), 9, next, way)
					x.along(l, 9)
					x.takes(last(l), 9, next, way)
					if r := int(next >> 1 % (1 << 20)); r != 0 {
						x.takes(last(l), r, marked(12), way)
						x.passesEdge(12, 0, 6, 4, 8)
					}
					x.swept(t, 6, true)
				}
			}
		}
	}
}

// TestSweepFails: if a death can't be saved, no, and that is all (P15.4, P15.5).
func TestSweepFails(t *testing.T) {
	for _, n := range threads {
		for sync := range 2 {
			x, y := tale{n: n}, tale{n: n}
			x.along([]item{{5, 1 << 33}}, 9)
			x.load(fieldAt(n, 9, nextWord), marked(2))
			x.fails(9, sync == 1)
			x.swept(t, 6, false)
			y.along(nil, 5)
			y.passesEdge(5, to(3), 1, 6, 7)
			y.kills(5, to(3), 0)
			y.load(fieldAt(n, 5, nextWord), marked(3))
			y.fails(5, sync == 1)
			y.swept(t, 6, false)
		}
	}
}

// TestNextOther: of any other kind, also of those of other chapters, there is no
// access, whatever is told, and the answer is ErrArg alone (P15.5).
func TestNextOther(t *testing.T) {
	l := []int{math.MinInt, math.MinInt + 8, math.MinInt32, -25, -8, -1, 256 + 8, 256 + 25, 1<<32 + 9, 1<<32 + 10, math.MaxInt}
	for kind := range 40 {
		if !slices.Contains(mine, kind) {
			l = append(l, kind)
		}
	}
	var log []api.Result
	for k := range 7 {
		log = append(log, api.Result{N: uint64(k) % 3, Fail: k == 4})
	}
	for _, kind := range l {
		for _, op := range []api.Op{{Kind: kind}, {Kind: kind, U: 1, V: 1, W: 1}, {Kind: kind, U: -1, V: math.MaxInt, W: math.MaxUint64}} {
			for k := range log {
				x := tale{n: 2, log: log[:k], out: api.Out{Err: api.ErrArg}}
				x.goes(t, 3, 1, op)
			}
		}
	}
}

// TestNextAlike: who asks, how many records there are, and what an operation has
// beside what its kind takes, count for nothing (P15.5, R4).
func TestNextAlike(t *testing.T) {
	search, seek, link, mark, sweep := tale{n: 2}, tale{n: 2}, tale{n: 2}, tale{n: 2}, tale{n: 2}
	search.along([]item{{3, 5}}, 2)
	search.takes(3, 2, marked(1), 1)
	search.passes(1, to(0), 7)
	search.out = api.Out{N: 1, W: 3, Is: true}
	seek.seeks(3, []item{{2, 5}}, 1)
	seek.load(fieldAt(2, 1, keyWord), 9)
	seek.out = api.Out{N: 1}
	link.store(fieldAt(2, 3, nextWord), to(2))
	link.cas(fieldAt(2, 1, nextWord), to(2), to(3), true)
	link.out = api.Out{Is: true}
	mark.load(fieldAt(2, 3, nextWord), to(2))
	mark.cas(fieldAt(2, 3, nextWord), to(2), marked(2), true)
	mark.out = api.Out{Is: true}
	sweep.along(nil, 3)
	sweep.load(fieldAt(2, 3, nextWord), marked(2))
	sweep.fails(3, true)
	sweep.out = api.Out{Err: api.ErrIO}
	for _, c := range []int{3, 4, 65536} {
		for _, n := range []int{math.MinInt, -1, 0, 1, 2, 3, 65536, math.MaxInt} {
			for me := range 2 {
				for range 2 {
					search.goes(t, c, me, api.Op{Kind: api.OSearch, U: n, V: n, W: 7})
					seek.goes(t, c, me, api.Op{Kind: api.OSeek, U: 3, V: n, W: 8})
					link.goes(t, c, me, api.Op{Kind: api.OLink, U: 1, V: 2, W: 3})
					mark.goes(t, c, me, api.Op{Kind: api.OMark, U: 3, V: n, W: uint64(n)})
					sweep.goes(t, c, me, api.Op{Kind: api.OSweep, U: n, V: n, W: 6})
				}
			}
		}
	}
}

// TestStrange: of whatever records and numbers, an operation asks, or answers, and
// doesn't do both.
func TestStrange(t *testing.T) {
	strange := []int{math.MinInt, math.MinInt32, -65537, -1, 0, 1, 2, 3, 4, 65537, 1 << 40, math.MaxInt}
	var log []api.Result
	for k := range 30 {
		log = append(log, api.Result{N: uint64(k * k % 7)})
	}
	for _, kind := range mine {
		for _, u := range strange {
			for _, v := range strange {
				for k := range log {
					a, out, done := Next(2, 3, 0, api.Op{Kind: kind, U: u, V: v, W: uint64(u * v)}, log[:k])
					if !done && !sameOut(out, api.Out{}) || done && !sameAccess(a, api.Access{}) {
						t.Fatal(kind, u, v, k, a, out, done)
					}
				}
			}
		}
	}
}

// TestNobody: where nobody makes accesses, each call ends.
func TestNobody(t *testing.T) {
	for _, k := range keys {
		Search(nil, 1, k)
		Seek(nil, 1, 0, k)
		Seek(nil, 1, 1, k)
		Sweep(nil, 1, k)
	}
	Link(nil, 1, 0, 0, 1)
	Mark(nil, 1, 1)
}

// TestUnwritten: what is handed in is as it was, and what came out stays, whatever
// is done with what comes out later (R3).
func TestUnwritten(t *testing.T) {
	x := tale{n: 2}
	x.begins(to(1))
	x.takes(0, 1, marked(0), 0)
	x.log[0].B = []byte("cd")
	var came [][]byte
	for range 2 {
		for k := range x.log {
			for kind := range 26 {
				a, _, _ := Next(2, 2, 0, api.Op{Kind: kind, U: 1, V: 1, W: 1}, x.log[:k])
				if a.Kind == api.AAppend && kind == api.OSearch {
					came = append(came, bytes.Clone(a.Data))
					clear(a.Data)
				}
			}
		}
	}
	if len(came) != 2 || !bytes.Equal(came[0], came[1]) || !bytes.Equal(came[0], deathOf(41)) {
		t.Error("what came out is turned:", came)
	}
	if x.log[0].N != to(1) || string(x.log[0].B) != "cd" || x.log[1].N != marked(0) || string(x.log[3].B) != "ab" {
		t.Error("what was handed in is turned:", x.log)
	}
}

// TestPlayed: played by Run as parts of another program, calls are left and gone on
// with as any others (P15.1 to P15.4).
func TestPlayed(t *testing.T) {
	x := tale{n: 2}
	x.along([]item{{3, 5}}, 0)
	x.store(fieldAt(2, 4, nextWord), to(0))
	x.cas(fieldAt(2, 3, nextWord), to(0), to(4), true)
	x.seeks(3, []item{{4, 1}}, 3)
	x.load(fieldAt(2, 3, keyWord), 6)
	x.load(fieldAt(2, 3, nextWord), to(2))
	x.cas(fieldAt(2, 3, nextWord), to(2), marked(2), true)
	x.begins(to(3))
	x.leaves(0, 3, marked(2), 3)
	x.begins(to(3))
	x.takes(0, 3, marked(0), 4)
	x.along(nil, 2)
	x.load(fieldAt(2, 2, nextWord), marked(2))
	x.fails(2, true)
	x.out = api.Out{Is: true, N: 3, W: 3}
	prog := func(do api.Do) api.Out {
		pred, curr, _, ok := Search(do, 2, 6)
		linked := Link(do, 2, pred, curr, 4)
		at, found := Seek(do, 2, 3, 6)
		out := api.Out{Is: ok && linked && found && Mark(do, 2, at), N: at, W: uint64(pred)}
		if !Sweep(do, 2, 6) {
			return api.Out{Err: api.ErrFull}
		}
		if _, _, _, ok := Search(do, 2, 6); ok {
			return api.Out{Err: api.ErrNone}
		}
		return out
	}
	x.plays(t, func(log []api.Result) (api.Access, api.Out, bool) { return play.Run(prog, log) })
}
