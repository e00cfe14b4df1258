package epoch

import (
	"bytes"
	"math"
	"slices"
	"strconv"
	"strings"
	"sync"
	"sync/atomic"
	"testing"

	"weald/access"
	"weald/api"
	"weald/cell"
	"weald/play"
)

// threads are how many a memory may be for: few, and the most.
var threads = []int{1, 2, 3, 63, 64}

// epochs are small ones, greater ones, and those where they go round.
var epochs = []uint64{0, 1, 2, 3, 4, 5, 1<<32 - 1, 1 << 32, 1<<63 - 1, math.MaxUint64 - 3, math.MaxUint64 - 2, math.MaxUint64 - 1, math.MaxUint64}

// records are some of the least, and of the greatest, of 65536.
var records = []int{1, 2, 7, 65535, 65536}

// otherKinds are those of no operation of the chapter.
func otherKinds() []int {
	mine := []int{api.OPin, api.OUnpin, api.ORetire, api.OAlloc, api.OAdvance}
	l := []int{math.MinInt, math.MinInt + 3, math.MinInt32, -6, -3, -1, 256 + 3, 256 + 19, 1<<32 + 3, 1<<32 + 6, math.MaxInt}
	for kind := range 40 {
		if !slices.Contains(mine, kind) {
			l = append(l, kind)
		}
	}
	return l
}

// linkAt is the place of a record's link.
func linkAt(t, r int) int { return 8 + t + 8*(r-1) + 7 }

// limboAt is the place of an epoch's limbo.
func limboAt(e uint64) int { return []int{4, 5, 6}[e%3] }

// sameAccess: are two accesses the same? (Two lists are, if their elements are.)
func sameAccess(a, b api.Access) bool {
	return a.Kind == b.Kind && a.Cell == b.Cell && a.A == b.A && a.B == b.B && bytes.Equal(a.Data, b.Data) && slices.Equal(a.Word, b.Word)
}

// sameOut: are two answers the same?
func sameOut(a, b api.Out) bool {
	return a.Err == b.Err && a.Is == b.Is && a.N == b.N && a.W == b.W && slices.Equal(a.List, b.List)
}

// tale is what an operation asks, and is told, one after the other; and what it
// answers then.
type tale struct {
	asks []api.Access
	log  []api.Result
	out  api.Out
}

// add lays an access, and what it is told, behind those of a tale.
func (x *tale) add(a api.Access, told uint64) {
	x.asks = append(x.asks, a)
	x.log = append(x.log, api.Result{N: told})
}

// load, store, cas and swap lay one of a word.
func (x *tale) load(i int, told uint64) { x.add(api.Access{Kind: api.ALoad, Cell: i}, told) }

func (x *tale) store(i int, n, told uint64) { x.add(api.Access{Kind: api.AStore, Cell: i, A: n}, told) }

func (x *tale) cas(i int, a, b, told uint64) {
	x.add(api.Access{Kind: api.ACas, Cell: i, A: a, B: b}, told)
}

func (x *tale) swap(i int, told uint64) { x.add(api.Access{Kind: api.ASwap, Cell: i}, told) }

// pop lays a round of chapter 12's Pop, that is done, or finds none.
func (x *tale) pop(n int, top, link uint64) {
	x.load(1, top)
	if r := top % (1 << 20); r != 0 {
		x.load(linkAt(n, int(r)), link)
		x.cas(1, top, link%(1<<20)+(top>>20+1)<<20, 1)
		x.out.N = int(r)
	}
}

// push lays rounds of chapter 12's Push of a record, one of each top, of which the
// last one is done.
func (x *tale) push(n, r int, tops []uint64) {
	for i, top := range tops {
		x.load(1, top)
		x.store(linkAt(n, r), top%(1<<20), uint64(i))
		done := uint64(0)
		if i == len(tops)-1 {
			done = 1
		}
		x.cas(1, top, uint64(r)+(top>>20+1)<<20, done)
	}
}

// pin lays the accesses of a Pin.
func (x *tale) pin(me int, e, stored uint64) {
	x.load(3, e)
	x.store(8+me, e+1, stored)
}

// stopped lays the accesses of an Advance that ends at the last pin that is told,
// or, if there is one of each thread, at its cas.
func (x *tale) stopped(n int, e uint64, pins []uint64, done uint64) {
	x.load(3, e)
	for i, pin := range pins {
		x.load(8+i, pin)
	}
	if len(pins) == n {
		x.cas(3, e, e+1, done)
	}
}

// advance lays those of an Advance that goes on by an epoch, as the chapter tells
// it: by the words of the chain, the limbo's own first, and by the tops that the
// Push of each record finds.
func (x *tale) advance(n int, e uint64, pins, chain, tops []uint64) {
	x.stopped(n, e, pins, 1)
	x.swap(limboAt(e+2), chain[0])
	for i := 0; chain[i]%(1<<20) != 0; i++ {
		r := int(chain[i] % (1 << 20))
		x.load(linkAt(n, r), chain[i+1])
		x.push(n, r, tops)
	}
}

// goes: does an operation ask just what a tale says, told each beginning of its
// log, and answer what it says, whatever of a log is left?
func (x *tale) goes(t *testing.T, n, c, me int, op api.Op) {
	t.Helper()
	for k, want := range x.asks {
		a, out, done := Next(n, c, me, op, x.log[:k])
		if !sameAccess(a, want) || !sameOut(out, api.Out{}) || done {
			t.Fatalf("%v for %d, told %v: %v, %v, %v, not the access %v alone", op, n, x.log[:k], a, out, done, want)
		}
	}
	more := append(slices.Clone(x.log), api.Result{N: 1}, api.Result{N: math.MaxUint64, B: []byte("ab"), Fail: true})
	for k := len(x.log); k <= len(more); k++ {
		a, out, done := Next(n, c, me, op, more[:k])
		if !sameAccess(a, api.Access{}) || !sameOut(out, x.out) || !done {
			t.Fatalf("%v for %d, told %v: %v, %v, %v, not the answer %v alone", op, n, more[:k], a, out, done, x.out)
		}
	}
}

// calls: does a call that is handed a tale's Do ask just what the tale says?
func (x *tale) calls(t *testing.T, call func(do api.Do) (int, bool)) {
	t.Helper()
	k := 0
	n, is := call(func(a api.Access) api.Result {
		if k >= len(x.asks) || !sameAccess(a, x.asks[k]) {
			t.Fatalf("the access %d is %v, not of %v", k, a, x.asks)
		}
		k++
		return x.log[k-1]
	})
	if k != len(x.asks) || n != x.out.N || is != x.out.Is {
		t.Fatalf("%d accesses, %d, and %v, not %d, %d, and %v", k, n, is, len(x.asks), x.out.N, x.out.Is)
	}
}

// pinOf, unpinOf, retireOf, advanceOf and allocOf are calls, each with its own
// arguments.
func pinOf(me int) func(do api.Do) (int, bool) {
	return func(do api.Do) (int, bool) { Pin(do, me); return 0, false }
}

func unpinOf(me int) func(do api.Do) (int, bool) {
	return func(do api.Do) (int, bool) { Unpin(do, me); return 0, false }
}

func retireOf(n, r int) func(do api.Do) (int, bool) {
	return func(do api.Do) (int, bool) { Retire(do, n, r); return 0, false }
}

func advanceOf(n int) func(do api.Do) (int, bool) {
	return func(do api.Do) (int, bool) { return 0, Advance(do, n) }
}

func allocOf(n, me int) func(do api.Do) (int, bool) {
	return func(do api.Do) (int, bool) { return Alloc(do, n, me), false }
}

// memory is a new memory.
func memory(t *testing.T, n, c int) api.Mem {
	t.Helper()
	m, e := cell.New(n, c)
	if e != api.OK {
		t.Fatal(e)
	}
	return m
}

// on makes accesses of a memory's words, in place.
func on(m api.Mem) api.Do {
	return func(a api.Access) api.Result {
		was := m.Word[a.Cell]
		switch {
		case a.Kind == api.AStore:
			m.Word[a.Cell] = a.A
			return api.Result{}
		case a.Kind == api.ASwap:
			m.Word[a.Cell] = a.A
		case a.Kind == api.ACas && was == a.A:
			m.Word[a.Cell] = a.B
			return api.Result{N: 1}
		case a.Kind == api.ACas:
			return api.Result{}
		}
		return api.Result{N: was}
	}
}

// chainOf are the records from a word on, if they are a chain that ends.
func chainOf(t *testing.T, m api.Mem, w uint64) []int {
	t.Helper()
	var l []int
	for r := w % (1 << 20); r != 0; r = m.Word[linkAt(m.T, int(r))] % (1 << 20) {
		l = append(l, int(r))
		if int(r) > m.C || len(l) > m.C {
			t.Fatal("no chain of records:", l)
		}
	}
	return l
}

// TestExample: that of the chapter (P13.2 to P13.4).
func TestExample(t *testing.T) {
	m := memory(t, 1, 1)
	do := on(m)
	r := Alloc(do, 1, 0)
	none := Alloc(do, 1, 0)
	Retire(do, 1, r)
	if again := Alloc(do, 1, 0); r != 1 || none != 0 || again != 1 {
		t.Error(r, none, again)
	}
}

// TestPin: it loads the epoch, and stores one more as the thread's pin (P13.1,
// P13.5, R5).
func TestPin(t *testing.T) {
	for _, n := range threads {
		for _, me := range []int{0, n / 2, n - 1} {
			for _, e := range epochs {
				for _, stored := range []uint64{0, 1, math.MaxUint64} {
					var x tale
					x.pin(me, e, stored)
					x.goes(t, n, 3, me, api.Op{Kind: api.OPin})
					x.calls(t, pinOf(me))
				}
			}
		}
	}
}

// TestUnpin: it stores 0 as the thread's pin (P13.1, P13.5).
func TestUnpin(t *testing.T) {
	for _, n := range threads {
		for _, me := range []int{0, n / 2, n - 1} {
			for _, stored := range []uint64{0, 1, math.MaxUint64} {
				var x tale
				x.store(8+me, 0, stored)
				x.goes(t, n, 3, me, api.Op{Kind: api.OUnpin})
				x.calls(t, unpinOf(me))
			}
		}
	}
}

// TestRetire: it loads the epoch, and its limbo, stores what that says, all of it,
// as the record's link, and turns the limbo to the record (P13.2, P13.5).
func TestRetire(t *testing.T) {
	for _, n := range threads {
		for _, r := range records {
			for _, e := range epochs {
				for _, head := range []uint64{0, 1, 65536, 1<<20 - 1, 1 << 20, 7 + 3<<20, math.MaxUint64} {
					var x tale
					x.load(3, e)
					x.load(limboAt(e), head)
					x.store(linkAt(n, r), head, e)
					x.cas(limboAt(e), head, uint64(r), 1)
					x.goes(t, n, 65536, 0, api.Op{Kind: api.ORetire, U: r})
					x.calls(t, retireOf(n, r))
				}
			}
		}
	}
}

// TestRetireAgain: until its cas is done, it begins again, but with the epoch that
// it loaded first (P13.2).
func TestRetireAgain(t *testing.T) {
	for rounds := 1; rounds < 12; rounds++ {
		for _, failed := range []uint64{0, 2, math.MaxUint64} {
			for _, e := range epochs {
				var x tale
				x.load(3, e)
				for k := range rounds + 1 {
					head, done := uint64(k*k%5), failed
					if k == rounds {
						done = 1
					}
					x.load(limboAt(e), head)
					x.store(linkAt(3, 6), head, uint64(k))
					x.cas(limboAt(e), head, 6, done)
				}
				x.goes(t, 3, 6, 2, api.Op{Kind: api.ORetire, U: 6})
				x.calls(t, retireOf(3, 6))
			}
		}
	}
}

// TestAdvanceHeld: the first pin that is neither 0 nor the epoch and 1 ends it,
// and no later one is loaded (P13.3, P13.5).
func TestAdvanceHeld(t *testing.T) {
	for _, n := range threads {
		for _, e := range epochs {
			for held := range n {
				pins := make([]uint64, held+1)
				for i := range held {
					if (i+held)%2 == 0 {
						pins[i] = e + 1
					}
				}
				for _, pin := range []uint64{e, e + 2, e - 1, e + 4, 1, 1 << 20, math.MaxUint64, e ^ 1<<63} {
					if pin == 0 || pin == e+1 {
						continue
					}
					pins[held] = pin
					var x tale
					x.load(3, e)
					for i, p := range pins {
						x.load(8+i, p)
					}
					x.goes(t, n, 3, 0, api.Op{Kind: api.OAdvance})
					x.calls(t, advanceOf(n))
				}
			}
		}
	}
}

// freePins are pins of all threads that hold nothing up: none, some, or all of
// them are in.
func freePins(n int, e uint64) [][]uint64 {
	l := make([][]uint64, 3)
	for i := range n {
		some := []uint64{0, e + 1}[i%2]
		l[0], l[1], l[2] = append(l[0], 0), append(l[1], some), append(l[2], e+1)
	}
	return l
}

// TestAdvanceLate: if the epoch isn't any more what it was, that is all (P13.3).
func TestAdvanceLate(t *testing.T) {
	for _, n := range threads {
		for _, e := range epochs {
			for _, pins := range freePins(n, e) {
				for _, failed := range []uint64{0, 2, math.MaxUint64} {
					var x tale
					x.stopped(n, e, pins, failed)
					x.goes(t, n, 3, 0, api.Op{Kind: api.OAdvance})
					x.calls(t, advanceOf(n))
				}
			}
		}
	}
}

// chains are words of limbos, and of the links behind: some with more than a
// reference.
var chains = [][]uint64{
	{0},
	{1 << 20},
	{1, 0},
	{65536, 7 << 20},
	{3 + 5<<20, 2 + 1<<40, 1 + 1<<63, 0},
	{1, 2, 3, 4, 5, 65535, 65536, 1 << 62},
}

// TestAdvance: it turns the epoch to the next one, empties the limbo of the one
// behind that, and pushes what was in there, from the first one on; what is
// behind a record is loaded ahead of its Push (P13.3, P13.5).
func TestAdvance(t *testing.T) {
	for _, n := range threads {
		for _, e := range epochs {
			for _, pins := range freePins(n, e) {
				for _, chain := range chains {
					for _, tops := range [][]uint64{{0}, {5 + 9<<20}, {1<<64 - 1}, {3, 8 + 1<<20, 3}} {
						x := tale{out: api.Out{Is: true}}
						x.advance(n, e, pins, chain, tops)
						x.goes(t, n, 65536, 0, api.Op{Kind: api.OAdvance})
						x.calls(t, advanceOf(n))
					}
				}
			}
		}
	}
}

// TestAllocFree: what is free is handed out at once (P13.4, P13.5).
func TestAllocFree(t *testing.T) {
	for _, n := range threads {
		for _, r := range records {
			for _, link := range []uint64{0, 2, 1 << 20, math.MaxUint64} {
				for _, tag := range []uint64{0, 1, 1<<44 - 1} {
					var x tale
					x.pop(n, uint64(r)+tag<<20, link)
					x.goes(t, n, 65536, n-1, api.Op{Kind: api.OAlloc})
					x.calls(t, allocOf(n, n-1))
				}
			}
		}
	}
}

// TestAllocTurns: where none is free, it pins, advances, and pops, at most three
// times, until there is one; also where the advance is held up, late, or finds
// nothing (P13.4, P13.5).
func TestAllocTurns(t *testing.T) {
	const n, me = 3, 1
	ways := []func(x *tale, e uint64){
		func(x *tale, e uint64) { x.stopped(n, e, []uint64{e + 2}, 0) },
		func(x *tale, e uint64) { x.stopped(n, e, []uint64{e + 1, 0, e + 1}, 0) },
		func(x *tale, e uint64) { x.advance(n, e, []uint64{0, e + 1, 0}, []uint64{0}, nil) },
		func(x *tale, e uint64) { x.advance(n, e, []uint64{0, e + 1, 0}, []uint64{2, 5, 0}, []uint64{6, 4}) },
	}
	for way := range 64 {
		for found := range 4 {
			for _, e := range []uint64{0, 1, 2, 7, 1 << 40, math.MaxUint64 - 9} {
				var x tale
				x.pop(n, 3<<20, 0)
				for turn := range 3 {
					// The epoch may be another one each time it is loaded.
					x.pin(me, e+uint64(turn), 0)
					ways[way>>(2*turn)%4](&x, e+uint64(turn*way%5))
					if turn == found {
						x.pop(n, 4+9<<20, 2)
						break
					}
					x.pop(n, 8<<20, 0)
				}
				if want := []int{4, 4, 4, 0}[found]; x.out.N != want {
					t.Fatal(x.out)
				}
				x.goes(t, n, 5, me, api.Op{Kind: api.OAlloc})
				x.calls(t, allocOf(n, me))
			}
		}
	}
}

// TestNextAlike: how many records there are, and what an operation has beside what
// its kind takes, count for nothing; nor does who asks, where its pin isn't turned
// (P13.5, R4).
func TestNextAlike(t *testing.T) {
	var pin, unpin, retire, alloc tale
	pin.pin(1, 6, 0)
	unpin.store(9, 0, 0)
	retire.load(3, 5)
	retire.load(6, 2)
	retire.store(linkAt(2, 4), 2, 0)
	retire.cas(6, 2, 4, 1)
	advance := tale{out: api.Out{Is: true}}
	advance.advance(2, 4, []uint64{0, 5}, []uint64{3, 0}, []uint64{1})
	alloc.pop(2, 0, 0)
	alloc.pin(1, 4, 0)
	alloc.advance(2, 4, []uint64{0, 5}, []uint64{3, 0}, []uint64{1})
	alloc.pop(2, 3, 1)
	for _, c := range []int{4, 5, 65536} {
		for _, n := range []int{math.MinInt, -1, 0, 1, 2, 3, 65536, math.MaxInt} {
			for range 2 {
				pin.goes(t, 2, c, 1, api.Op{Kind: api.OPin, U: n, V: -n, W: uint64(n)})
				unpin.goes(t, 2, c, 1, api.Op{Kind: api.OUnpin, U: n, V: -n, W: uint64(n)})
				alloc.goes(t, 2, c, 1, api.Op{Kind: api.OAlloc, U: n, V: -n, W: uint64(n)})
				for me := range 2 {
					retire.goes(t, 2, c, me, api.Op{Kind: api.ORetire, U: 4, V: n, W: uint64(n)})
					advance.goes(t, 2, c, me, api.Op{Kind: api.OAdvance, U: n, V: -n, W: uint64(n)})
				}
			}
		}
	}
}

// TestNextOther: of any other kind, also of those of other chapters, there is no
// access, whatever is told, and the answer is ErrArg alone (P13.5).
func TestNextOther(t *testing.T) {
	long := tale{out: api.Out{Err: api.ErrArg}}
	for k := range 7 {
		long.log = append(long.log, api.Result{N: uint64(k) % 3, Fail: k == 4})
	}
	for _, kind := range otherKinds() {
		for _, op := range []api.Op{{Kind: kind}, {Kind: kind, U: 1, V: 1, W: 1}, {Kind: kind, U: -1, V: math.MaxInt, W: math.MaxUint64}} {
			for _, log := range [][]api.Result{nil, {}, long.log} {
				x := tale{log: log, out: long.out}
				x.goes(t, 2, 3, 1, op)
			}
		}
	}
}

// TestNobody: where nobody makes accesses, each call ends.
func TestNobody(t *testing.T) {
	Pin(nil, 0)
	Unpin(nil, 0)
	Retire(nil, 1, 1)
	if Advance(nil, 1) || Alloc(nil, 1, 0) != 0 {
		t.Error("nobody tells something")
	}
}

// TestUnwritten: what is handed in is as it was (R3).
func TestUnwritten(t *testing.T) {
	log := []api.Result{{N: 1, B: []byte("ab")}, {N: 2, B: []byte("cd")}, {N: 1, B: []byte("ef")}, {N: 9}, {}, {N: 1}}
	for k := range log {
		for kind := range 26 {
			Next(2, 2, 0, api.Op{Kind: kind, U: 1}, log[:k])
		}
	}
	for i, n := range []uint64{1, 2, 1, 9, 0, 1} {
		if log[i].N != n || log[i].Fail {
			t.Error("what was handed in is turned:", log)
		}
	}
	if string(log[0].B)+string(log[1].B)+string(log[2].B) != "abcdef" {
		t.Error("what was handed in is turned:", log)
	}
}

// alone plays an operation on a world to its end.
func alone(t *testing.T, w api.World, me int, op api.Op) (api.World, api.Out) {
	t.Helper()
	var log []api.Result
	for range 10000 {
		a, out, done := Next(w.Mem.T, w.Mem.C, me, op, log)
		if done {
			return w, out
		}
		var r api.Result
		w, r = access.Do(w, me, a, false)
		log = append(log, r)
	}
	t.Fatal("no end:", op, log)
	return w, api.Out{}
}

// model is what a memory says, told plainly: free records, and those of limbos,
// each the one of its top, or head, first; and since which epoch each thread is in
// (below 0: it is out).
type model struct {
	epoch  int
	free   []int
	limbos [3][]int
	since  []int
}

// newModel is that of a new memory.
func newModel(n, c int) *model {
	m := &model{since: make([]int, n)}
	for i := range m.since {
		m.since[i] = -1
	}
	for r := range c {
		m.free = append(m.free, r+1)
	}
	return m
}

// advance goes on by an epoch, if it may be.
func (m *model) advance() bool {
	for _, e := range m.since {
		if e >= 0 && e != m.epoch {
			return false
		}
	}
	m.epoch++
	old := &m.limbos[(m.epoch+1)%3]
	for _, r := range *old {
		m.free = append([]int{r}, m.free...)
	}
	*old = nil
	return true
}

// alloc takes a record: 0, if it finds none.
func (m *model) alloc(me int) int {
	for turn := 0; len(m.free) == 0 && turn < 3; turn++ {
		m.since[me] = m.epoch
		m.advance()
	}
	if len(m.free) == 0 {
		return 0
	}
	r := m.free[0]
	m.free = m.free[1:]
	return r
}

// holds: is a memory as its model tells?
func (m *model) holds(t *testing.T, mem api.Mem) {
	t.Helper()
	if l := chainOf(t, mem, mem.Word[1]); !slices.Equal(l, m.free) {
		t.Fatal(l, "are free, not", m.free)
	}
	if mem.Word[3] != uint64(m.epoch) {
		t.Fatal("epoch", mem.Word[3], "not", m.epoch)
	}
	for i, want := range m.limbos {
		if l := chainOf(t, mem, mem.Word[4+i]); !slices.Equal(l, want) {
			t.Fatal(l, "are in limbo", i, "not", want)
		}
	}
	for i, e := range m.since {
		if mem.Word[8+i] != uint64(e+1) {
			t.Fatal("pin", mem.Word[8+i], "of", i, "not of", e)
		}
	}
}

// TestOneByOne: operations one after the other, of some threads, turn a memory as
// it is told plainly, and no other word (P13.1 to P13.4).
func TestOneByOne(t *testing.T) {
	for seed := range uint64(40) {
		n, c := []int{1, 2, 3, 5}[seed%4], int(seed/4%6)
		s := seed
		w, m := api.World{Mem: memory(t, n, c)}, newModel(n, c)
		others := []int{0, 2, 7}
		for r := range c {
			for f := range 7 {
				others = append(others, 8+n+8*r+f)
			}
		}
		for _, i := range others {
			w.Mem.Word[i] = uint64(i) << 30
		}
		var held []int
		for range 400 {
			s = s*6364136223846793005 + 1442695040888963407
			me := int(s >> 40 % uint64(n))
			op, want := api.Op{Kind: []int{api.OPin, api.OUnpin, api.OAdvance, api.OAlloc, api.ORetire, api.OUnpin, api.OAlloc, api.ORetire}[s>>61]}, api.Out{}
			switch {
			case op.Kind == api.OPin:
				m.since[me] = m.epoch
			case op.Kind == api.OUnpin:
				m.since[me] = -1
			case op.Kind == api.OAdvance:
				want.Is = m.advance()
			case op.Kind == api.OAlloc:
				want.N = m.alloc(me)
				if want.N != 0 {
					held = append(held, want.N)
				}
			case len(held) == 0:
				continue
			default:
				i := int(s>>30) % len(held)
				op.U = held[i]
				held = slices.Delete(held, i, i+1)
				m.limbos[m.epoch%3] = append([]int{op.U}, m.limbos[m.epoch%3]...)
			}
			var out api.Out
			if w, out = alone(t, w, me, op); !sameOut(out, want) {
				t.Fatal(op, out, "not", want)
			}
			m.holds(t, w.Mem)
		}
		for _, i := range others {
			if w.Mem.Word[i] != uint64(i)<<30 {
				t.Error("the word", i, "is turned:", w.Mem.Word[i])
			}
		}
	}
}

// TestAloneAll: alone, Alloc hands out what is free, and then all that is retired,
// in whatever epochs, whether the thread itself is pinned or not; and then none
// (P13.6).
func TestAloneAll(t *testing.T) {
	for _, c := range []int{0, 1, 2, 3, 4, 7, 64, 65536} {
		for _, kept := range []int{0, 1, c / 2} {
			for pins := range 3 {
				m := memory(t, 3, c)
				do := on(m)
				for r := 1; r <= c-kept; r++ {
					if got := Alloc(do, 3, 1); got != r {
						t.Fatal(got, "not", r)
					}
				}
				for r := 1; r <= c-kept; r++ {
					if pins > 0 {
						Pin(do, 1)
					}
					Retire(do, 3, r)
					if pins > 1 {
						Unpin(do, 1)
					}
					if r%2 == 0 {
						Advance(do, 3)
					}
				}
				got := make([]bool, c+1)
				for k := range c {
					r := Alloc(do, 3, 1)
					if r < 1 || r > c || got[r] {
						t.Fatal("of", c, "after", k, "ones:", r)
					}
					got[r] = true
				}
				for range 3 {
					if r := Alloc(do, 3, 1); r != 0 {
						t.Fatal("of none:", r)
					}
				}
			}
		}
	}
}

// TestHeldUp: what is retired while a thread is pinned isn't handed out as long as
// it stays so, however often it is asked for; and then it is (P13.6).
func TestHeldUp(t *testing.T) {
	for ahead := range 7 {
		for late := range 4 {
			m := memory(t, 3, 4)
			do := on(m)
			for range ahead {
				Advance(do, 3)
			}
			for range 4 {
				Alloc(do, 3, 0)
			}
			Pin(do, 2)
			for range late {
				Pin(do, 0)
				Advance(do, 3)
			}
			Pin(do, 0)
			for r := 1; r <= 4; r++ {
				Retire(do, 3, r)
				if r == 2 {
					Advance(do, 3)
				}
			}
			for range 9 {
				if r := Alloc(do, 3, 0); r != 0 {
					t.Fatal(ahead, late, "handed out, though it may be held:", r)
				}
			}
			Unpin(do, 2)
			var l []int
			for range 4 {
				l = append(l, Alloc(do, 3, 0))
			}
			slices.Sort(l)
			if !slices.Equal(l, []int{1, 2, 3, 4}) || Alloc(do, 3, 0) != 0 {
				t.Fatal(ahead, late, l)
			}
		}
	}
}

// thread is one that comes in (i), and out (o), takes a record (a), gives back the
// one that it has longest (r), and advances (v); what it asks just now, and was
// told; and what it has.
type thread struct {
	todo string
	op   api.Op
	log  []api.Result
	has  []int
}

// begin takes what is to do next, if nothing is under way: is there anything?
func (x *thread) begin() bool {
	for x.op.Kind == 0 && x.todo != "" {
		what := x.todo[0]
		x.todo = x.todo[1:]
		switch what {
		case 'i':
			x.op.Kind = api.OPin
		case 'o':
			x.op.Kind = api.OUnpin
		case 'a':
			x.op.Kind = api.OAlloc
		case 'v':
			x.op.Kind = api.OAdvance
		case 'r':
			if len(x.has) > 0 {
				x.op = api.Op{Kind: api.ORetire, U: x.has[0]}
			}
		}
	}
	return x.op.Kind != 0
}

// state is a world, its threads, and for each record which threads are pinned
// since ahead of its being retired, by bits.
type state struct {
	w      api.World
	all    []thread
	guards []uint64
}

// start is a state of c records, of which threads have the first ones, and of what
// they do: how many they have, a blank, and their letters.
func start(t *testing.T, c int, ways ...string) state {
	t.Helper()
	w := api.World{Mem: memory(t, len(ways), c)}
	s := state{w: w, guards: make([]uint64, c+1)}
	for me, way := range ways {
		many, todo, _ := strings.Cut(way, " ")
		n, err := strconv.Atoi(many)
		if err != nil {
			t.Fatal(err)
		}
		x := thread{todo: todo}
		for range n {
			var out api.Out
			s.w, out = alone(t, s.w, me, api.Op{Kind: api.OAlloc})
			x.has = append(x.has, out.N)
		}
		s.all = append(s.all, x)
	}
	return s
}

// step is the state behind one access of a thread, if that has anything to do.
func (s state) step(t *testing.T, me int) (state, bool) {
	t.Helper()
	s.all, s.guards = slices.Clone(s.all), slices.Clone(s.guards)
	x := &s.all[me]
	if !x.begin() {
		return s, false
	}
	a, _, done := Next(s.w.Mem.T, s.w.Mem.C, me, x.op, x.log)
	if done {
		t.Fatal("it is over:", x)
	}
	if x.op.Kind == api.ORetire && len(x.log) == 0 {
		s.guards[x.op.U] = s.pinned()
	}
	if a.Kind == api.AStore && a.Cell == 8+me {
		for r := range s.guards {
			s.guards[r] &^= 1 << me
		}
	}
	var r api.Result
	s.w, r = access.Do(s.w, me, a, false)
	x.log = append(slices.Clip(x.log), r)
	if _, out, over := Next(s.w.Mem.T, s.w.Mem.C, me, x.op, x.log); over {
		s.end(t, x, out)
	}
	return s, true
}

// pinned are the threads that are, by bits.
func (s state) pinned() uint64 {
	bits := uint64(0)
	for i := range s.all {
		if s.w.Mem.Word[8+i] != 0 {
			bits |= 1 << i
		}
	}
	return bits
}

// end ends a thread's operation: what is handed out is nobody's, and no thread is
// pinned any more that was when it was retired.
func (s state) end(t *testing.T, x *thread, out api.Out) {
	t.Helper()
	switch x.op.Kind {
	case api.ORetire:
		x.has = slices.Clone(x.has[1:])
	case api.OAlloc:
		if out.N == 0 {
			break
		}
		if out.N < 0 || out.N > s.w.Mem.C || s.guards[out.N] != 0 {
			t.Fatal("handed out, though it may be held:", out.N, s)
		}
		for _, y := range s.all {
			if slices.Contains(y.has, out.N) {
				t.Fatal("handed out twice:", out.N, s)
			}
		}
		x.has = append(slices.Clip(x.has), out.N)
	}
	x.op, x.log = api.Op{}, nil
}

// over: where all threads are at their ends, is each record free, in a limbo, or a
// thread's?
func (s state) over(t *testing.T) {
	t.Helper()
	l := chainOf(t, s.w.Mem, s.w.Mem.Word[1])
	for i := range 3 {
		l = append(l, chainOf(t, s.w.Mem, s.w.Mem.Word[4+i])...)
	}
	for _, x := range s.all {
		l = append(l, x.has...)
	}
	slices.Sort(l)
	for i, r := range l {
		if r != i+1 {
			t.Fatal("not each record is free, or in a limbo, or one thread's:", l, s)
		}
	}
	if len(l) != s.w.Mem.C {
		t.Fatal("records are lost:", l, s)
	}
}

// name tells a state apart from others.
func (s state) name() string {
	var b []byte
	number := func(n uint64) { b = strconv.AppendUint(append(b, ' '), n, 36) }
	for _, n := range s.w.Mem.Word {
		number(n)
	}
	for _, n := range s.guards {
		number(n)
	}
	for _, x := range s.all {
		b = append(append(b, '/'), x.todo...)
		number(uint64(x.op.Kind))
		for _, r := range x.log {
			number(r.N)
		}
		b = append(b, ':')
		for _, r := range x.has {
			number(uint64(r))
		}
	}
	return string(b)
}

// everyWay plays threads to their ends, whoever steps when, from each state that
// isn't among those that were seen.
func everyWay(t *testing.T, s state, seen map[string]bool) {
	t.Helper()
	name := s.name()
	if seen[name] {
		return
	}
	seen[name] = true
	ended := true
	for me := range s.all {
		if next, steps := s.step(t, me); steps {
			ended = false
			everyWay(t, next, seen)
		}
	}
	if ended {
		s.over(t)
	}
}

// TestEveryWay: whoever steps when, what is retired by a thread that is pinned
// isn't handed out while a thread stays pinned that was then; and no record is two
// threads', or lost (P13.6).
func TestEveryWay(t *testing.T) {
	for _, x := range []struct {
		c    int
		ways []string
	}{
		{0, []string{"0 ia", "0 iao"}},
		{1, []string{"1 iro", "0 iao"}},
		{1, []string{"1 iro", "0 a"}},
		{1, []string{"1 iroioio", "0 iao"}},
		{1, []string{"1 irvvva", "0 ivvvoa"}},
		{1, []string{"1 iro", "0 ivivivao"}},
		{2, []string{"1 irao", "1 irao"}},
		{2, []string{"2 irro", "0 iaao"}},
		{2, []string{"2 irovirova", "0 iovio"}},
		{3, []string{"1 iraoiro", "1 irao"}},
		{1, []string{"1 iro", "0 io", "0 ia"}},
		{1, []string{"1 iro", "0 io", "0 iao"}},
		{2, []string{"1 iro", "1 iro", "0 ia"}},
		{1, []string{"1 irvo", "0 io", "0 ivao"}},
	} {
		everyWay(t, start(t, x.c, x.ways...), map[string]bool{})
	}
}

// toEnd is the state behind all that a thread has to do.
func (s state) toEnd(t *testing.T, me int) state {
	t.Helper()
	for steps := true; steps; {
		s, steps = s.step(t, me)
	}
	return s
}

// TestScripts: so it is for more threads, and for longer; and behind it, when no
// other thread is pinned, one alone is handed out all that no thread has (P13.6).
func TestScripts(t *testing.T) {
	handed := 0
	for seed := range uint64(48) {
		x := seed
		random := func(n int) int {
			x = x*6364136223846793005 + 1442695040888963407
			return int(x >> 33 % uint64(n))
		}
		n := []int{2, 3, 4, 5, 7, 2, 3, 64}[seed%8]
		ways := make([]string, n)
		for me := range ways {
			ways[me] = "0 "
			for range 8 {
				ways[me] += []string{"iao", "iro", "irao", "ivo", "iarvo", "io", "a", "iarriao"}[random(8)]
			}
			ways[me] += "o"
		}
		s := start(t, 2+int(seed/8), ways...)
		for range 3000 {
			s, _ = s.step(t, random(n))
		}
		left := s.w.Mem.C
		for me := range s.all {
			s = s.toEnd(t, me)
			left -= len(s.all[me].has)
		}
		s.over(t)
		for range left {
			had := len(s.all[0].has)
			s.all[0].todo = "a"
			if s = s.toEnd(t, 0); len(s.all[0].has) != had+1 {
				t.Fatal("not all is handed out:", left, s)
			}
			handed++
		}
	}
	if handed == 0 {
		t.Error("no script leaves a record")
	}
}

// shared makes accesses of words that threads share.
func shared(words []uint64) api.Do {
	return func(a api.Access) api.Result {
		p := &words[a.Cell]
		switch {
		case a.Kind == api.AStore:
			atomic.StoreUint64(p, a.A)
		case a.Kind == api.ALoad:
			return api.Result{N: atomic.LoadUint64(p)}
		case a.Kind == api.ASwap:
			return api.Result{N: atomic.SwapUint64(p, a.A)}
		case a.Kind == api.ACas && atomic.CompareAndSwapUint64(p, a.A, a.B):
			return api.Result{N: 1}
		}
		return api.Result{}
	}
}

// TestThreads: so it is for threads that run: one that is pinned, and finds a
// record where all look, has it unturned as long as it stays pinned (P13.6).
func TestThreads(t *testing.T) {
	const many, records, rounds = 8, 12, 3000
	m := memory(t, many, records)
	do := shared(m.Word)
	var place, wrong, turned atomic.Int64
	var made [records + 1]atomic.Int64
	replace := func(me int) {
		r := Alloc(do, many, me)
		if r == 0 {
			return
		}
		made[r].Add(1)
		turned.Add(1)
		if old := place.Swap(int64(r)); old != 0 {
			Retire(do, many, int(old))
		}
	}
	look := func() {
		r := place.Load()
		was := made[r].Load()
		for range 20 {
			if made[r].Load() != was {
				wrong.Add(1)
			}
		}
	}
	var all sync.WaitGroup
	for me := range many {
		all.Go(func() {
			for k := range rounds {
				Pin(do, me)
				if (k+me)%3 == 0 {
					replace(me)
				} else {
					look()
				}
				Unpin(do, me)
			}
		})
	}
	all.Wait()
	if wrong.Load() != 0 || turned.Load() < records {
		t.Error("turned while they were held:", wrong.Load(), "of", turned.Load())
	}
	for k := range records - 1 {
		if r := Alloc(do, many, 0); r == 0 || int64(r) == place.Load() {
			t.Fatal(k, r)
		}
	}
	if r := Alloc(do, many, 0); r != 0 {
		t.Error("of none:", r)
	}
}

// TestPlayed: played by Run as a part of another program, a call is left and gone
// on with as any other, also amid a chain (P13.5).
func TestPlayed(t *testing.T) {
	prog := func(do api.Do) api.Out {
		Pin(do, 0)
		Retire(do, 2, 3)
		out := api.Out{Is: Advance(do, 2), N: Alloc(do, 2, 0)}
		Unpin(do, 0)
		return out
	}
	var x tale
	x.pin(0, 7, 0)
	x.load(3, 7)
	x.load(5, 1)
	x.store(linkAt(2, 3), 1, 0)
	x.cas(5, 1, 3, 1)
	x.advance(2, 7, []uint64{8, 0}, []uint64{6, 4, 5, 0}, []uint64{0, 2})
	x.pop(2, 5+6<<20, 4)
	x.store(8, 0, 0)
	for k, want := range x.asks {
		if a, _, done := play.Run(prog, x.log[:k]); !sameAccess(a, want) || done {
			t.Error(k, a, done)
		}
	}
	if _, out, done := play.Run(prog, x.log); !sameOut(out, api.Out{Is: true, N: 5}) || !done {
		t.Error(out, done)
	}
}
