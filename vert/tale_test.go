package vert

import (
	"math"
	"slices"
	"testing"

	"weald/api"
)

// lcg tells numbers that look as if by chance, the same ones each time.
func lcg(seed uint64) func(n int) int {
	return func(n int) int {
		seed = seed*6364136223846793005 + 1442695040888963407
		return int(seed >> 33 % uint64(n))
	}
}

// tale is what an operation of thread me, of a memory for n threads and c records,
// asks, and is told, one after the other. It is laid by the chapters' words; what an
// access is told comes by chance, and all that follows hangs on it.
type tale struct {
	n, c, me int
	k        uint64
	random   func(n int) int
	asks     []api.Access
	log      []api.Result
	// came are the places that the tale came by.
	came map[string]int
}

// tell lays an access, and what it is told.
func (x *tale) tell(a api.Access, told api.Result) {
	x.asks = append(x.asks, a)
	x.log = append(x.log, told)
}

// by says that the tale came by a place.
func (x *tale) by(place string) { x.came[place]++ }

// load, store and cas lay one of a word.
func (x *tale) load(i int, told uint64) uint64 {
	x.tell(load(i), api.Result{N: told})
	return told
}

func (x *tale) store(i int, n uint64) { x.tell(store(i, n), api.Result{N: uint64(x.random(3))}) }

func (x *tale) cas(i int, a, b uint64) bool {
	told := []uint64{1, 1, 1, 1, 0, 0, 2, math.MaxUint64}[x.random(8)]
	x.tell(cas(i, a, b), api.Result{N: told})
	return told == 1
}

// works lays an access of the disk: does it work?
func (x *tale) works(a api.Access) bool {
	fail := x.random(12) == 0
	x.tell(a, api.Result{N: uint64(x.random(3)), Fail: fail})
	return !fail
}

// record is one, or none; word is a next word, key a key near that of the vertex, flag
// a flag of one of few stamps, any any number.
func (x *tale) record() int { return []int{0, 0, 1, 2, 3, 7, x.c}[x.random(7)] % (x.c + 1) }

func (x *tale) word() uint64 {
	w := uint64(x.record()) * 2
	if x.random(4) == 0 {
		w++
	}
	if x.random(9) == 0 {
		// What lies above a reference is not of it.
		w += 1 << 40
	}
	return w
}

func (x *tale) key() uint64 {
	return []uint64{0, x.k - 1<<31, x.k - 1, x.k, x.k, x.k + 1, x.k + 1<<31, math.MaxUint64}[x.random(8)]
}

func (x *tale) flag() uint64 { return uint64(1+x.random(2))<<2 + uint64(x.random(4)) }

func (x *tale) any() uint64 {
	return []uint64{0, 1, 2, 5, uint64(x.random(1 << 20)), 1 << 62, math.MaxUint64}[x.random(7)]
}

// at is the place of a record's word.
func (x *tale) at(r, f int) int { return fieldAt(x.n, r, f) }

// pin lays a Pin (P13.1).
func (x *tale) pin() { x.store(8+x.me, x.load(3, x.any())+1) }

// retire lays a Retire (P13.2).
func (x *tale) retire(r int) {
	limbo := 4 + int(x.load(3, x.any())%3)
	for done := false; !done; {
		h := x.load(limbo, x.any())
		x.store(x.at(r, linkWord), h)
		done = x.cas(limbo, h, uint64(r))
	}
}

// turn lays a cas of the top, to a record, with a tag more.
func (x *tale) turn(w, r uint64) bool { return x.cas(1, w, r%(1<<20)+(w>>20+1)<<20) }

// pop lays a Pop (P12.1).
func (x *tale) pop() int {
	for {
		w := x.load(1, uint64(x.record())+x.any()<<20)
		r := int(w % (1 << 20))
		if r == 0 || x.turn(w, x.load(x.at(r, linkWord), x.any())) {
			return r
		}
		x.by("a pop again")
	}
}

// push lays a Push (P12.2).
func (x *tale) push(r int) {
	for done := false; !done; {
		w := x.load(1, uint64(x.record())+x.any()<<20)
		x.store(x.at(r, linkWord), w%(1<<20))
		done = x.turn(w, uint64(r))
	}
}

// advance lays an Advance (P13.3).
func (x *tale) advance() {
	e := x.load(3, x.any())
	for i := range x.n {
		told := []uint64{0, 0, 0, e + 1, e + 1, e + 1, e + 1, e}[x.random(8)]
		if x.load(8+i, told); told != 0 && told != e+1 {
			x.by("no advance")
			return
		}
	}
	if !x.cas(3, e, e+1) {
		return
	}
	h := uint64(x.record())
	x.tell(api.Access{Kind: api.ASwap, Cell: 4 + int((e+2)%3)}, api.Result{N: h})
	for r := int(h); r != 0; {
		n := x.load(x.at(r, linkWord), uint64(x.record()))
		x.by("a record comes back")
		x.push(r)
		r = int(n)
	}
}

// alloc lays an Alloc (P13.4).
func (x *tale) alloc() int {
	r := x.pop()
	for i := 0; i < 3 && r == 0; i++ {
		x.pin()
		x.advance()
		r = x.pop()
	}
	return r
}

// make lays a Make of a vertex (P14.1).
func (x *tale) make(r int) {
	n := x.any()
	x.tell(count(), api.Result{N: n})
	x.store(x.at(r, flagWord), (n+1)<<2)
	x.store(x.at(r, keyWord), x.k)
	for _, f := range []int{endsWord, uWord, vWord, weightWord} {
		x.store(x.at(r, f), 0)
	}
}

// set lays that a bit is put into a flag, till it is there, or another one's (P14.3,
// P14.4).
func (x *tale) set(r int, bit uint64, over func(flag uint64) bool) {
	for done := false; !done; {
		f := x.load(x.at(r, flagWord), x.flag())
		done = f&bit == bit || over(f) || x.cas(x.at(r, flagWord), f, f|bit)
	}
}

// save lays a Save (P14.4).
func (x *tale) save(r int, bit uint64) bool {
	f := x.load(x.at(r, flagWord), x.flag())
	if f&bit == bit {
		x.by("it is durable")
		return true
	}
	data := framed(2, f>>2)
	if bit == 1 {
		k := x.load(x.at(r, keyWord), x.k)
		su := x.load(x.at(r, uWord), uint64(x.random(9)/8))
		sv := x.load(x.at(r, vWord), 0)
		w := x.load(x.at(r, weightWord), x.any())
		data = framed(1, f>>2, k, su, sv, w)
		if su+sv > 0 {
			// No such entry may be of a vertex.
			data = nil
		}
	}
	if !x.works(appends(data)) || !x.works(syncs()) {
		return false
	}
	x.set(r, bit, func(g uint64) bool { return g>>2 != f>>2 })
	return true
}

// takeOut lays that a record is taken out: was it done, and did nothing fail (P15.1)?
func (x *tale) takeOut(p, r int, w uint64) (done, ok bool) {
	if !x.save(r, 2) {
		return false, false
	}
	if !x.cas(nextAt(x.n, p), to(r), to(refOf(w))) {
		x.by("the list is gone along again")
		return false, true
	}
	x.retire(r)
	return true, true
}

// walk lays a walk along the list, up to where it is to stop: did nothing fail (P15.1,
// P15.4)?
func (x *tale) walk(stops func(r int, w uint64) (again, stop bool)) (pred, curr int, ok bool) {
	pred, curr = 0, refOf(x.load(0, x.word()))
	for curr != 0 {
		w := x.load(x.at(curr, nextWord), x.word())
		if w%2 == 1 {
			done, ok := x.takeOut(pred, curr, w)
			if !ok {
				return 0, 0, false
			}
			if curr = refOf(w); !done {
				pred, curr = 0, refOf(x.load(0, x.word()))
			}
			continue
		}
		again, stop := stops(curr, w)
		if stop {
			break
		}
		if !again {
			pred, curr = curr, refOf(w)
		}
	}
	return pred, curr, true
}

// search lays a Search of the vertex (P15.1).
func (x *tale) search() (pred, curr int, found, ok bool) {
	pred, curr, ok = x.walk(func(r int, _ uint64) (again, stop bool) {
		k := x.load(x.at(r, keyWord), x.key())
		found = k == x.k
		return false, k >= x.k
	})
	return pred, curr, found, ok
}

// sweep lays a Sweep (P15.4).
func (x *tale) sweep(stamp uint64) bool {
	_, _, ok := x.walk(func(r int, w uint64) (again, stop bool) {
		if x.load(x.at(r, keyWord), x.key())%(1<<31) == 0 {
			return false, false
		}
		su := x.load(x.at(r, uWord), stamp+uint64(x.random(2)))
		sv := x.load(x.at(r, vWord), stamp+uint64(x.random(2)))
		if su != stamp && sv != stamp {
			return false, false
		}
		x.by("an edge is swept")
		if x.cas(x.at(r, nextWord), w, w+1) {
			x.set(r, 2, func(uint64) bool { return false })
		}
		return true, false
	})
	return ok
}

// addV lays what OAddV does inside (P16.1).
func (x *tale) addV() (api.Out, bool) {
	_, at, found, ok := x.search()
	if !ok {
		x.by("the first search fails")
		return api.Out{}, false
	}
	if found {
		x.by("it is there")
		return api.Out{}, x.save(at, 1)
	}
	r := x.alloc()
	if r == 0 {
		x.by("full")
		return api.Out{Err: api.ErrFull}, true
	}
	x.make(r)
	for {
		p, at, found, ok := x.search()
		if !ok {
			x.by("the second search fails")
			x.push(r)
			return api.Out{}, false
		}
		if found {
			x.by("it is there by now")
			x.push(r)
			return api.Out{}, x.save(at, 1)
		}
		x.store(x.at(r, nextWord), to(at))
		if x.cas(nextAt(x.n, p), to(at), to(r)) {
			break
		}
		x.by("it is linked again")
	}
	x.by("it is added")
	return api.Out{Is: true}, x.save(r, 1)
}

// removeV lays what ORemV does inside (P16.2).
func (x *tale) removeV() (api.Out, bool) {
	for {
		_, r, found, ok := x.search()
		if !ok {
			x.by("its search fails")
			return api.Out{}, false
		}
		if !found {
			x.by("it isn't there")
			return api.Out{}, true
		}
		at := x.at(r, nextWord)
		w := x.load(at, x.word())
		if w%2 == 1 || !x.cas(at, w, w+1) {
			x.by("it is marked again")
			continue
		}
		s := x.load(x.at(r, flagWord), x.flag()) >> 2
		if !x.save(r, 2) {
			x.by("its death fails")
			return api.Out{}, false
		}
		if !x.sweep(s) {
			x.by("its sweep fails")
			return api.Out{}, false
		}
		x.by("it is removed")
		return api.Out{Is: true}, true
	}
}

// hasV lays what OHasV does inside (P16.3).
func (x *tale) hasV() (api.Out, bool) {
	r := refOf(x.load(0, x.word()))
	for r != 0 {
		k := x.load(x.at(r, keyWord), x.key())
		if k > x.k {
			r = 0
		}
		if k >= x.k {
			break
		}
		r = refOf(x.load(x.at(r, nextWord), x.word()))
	}
	if r == 0 {
		x.by("nothing is asked of")
		return api.Out{}, true
	}
	if x.load(x.at(r, nextWord), x.word())%2 == 1 {
		x.by("what is asked of is marked")
		return api.Out{}, x.save(r, 2)
	}
	x.by("it is in")
	return api.Out{Is: true}, x.save(r, 1)
}

// whole lays an operation, entered and left (P14.6), and tells what it answers.
func (x *tale) whole(kind int) api.Out {
	if x.load(7, []uint64{0, 0, 0, 0, 0, 0, 0, x.any()}[x.random(8)]) != 0 {
		x.by("sealed")
		return api.Out{Err: api.ErrSealed}
	}
	x.pin()
	var out api.Out
	var ok bool
	switch kind {
	case api.OAddV:
		out, ok = x.addV()
	case api.ORemV:
		out, ok = x.removeV()
	case api.OHasV:
		out, ok = x.hasV()
	}
	if !ok {
		x.by("failed")
		x.store(7, 1)
		out = api.Out{Err: api.ErrIO}
	}
	x.store(8+x.me, 0)
	return out
}

// goes: does an operation ask just what a tale says, told each beginning of its log,
// and answer what it says, whatever of a log is left?
func (x *tale) goes(t *testing.T, op api.Op, want api.Out) {
	t.Helper()
	for k, ask := range x.asks {
		a, out, done := Next(x.n, x.c, x.me, op, x.log[:k])
		if !sameAccess(a, ask) || !sameOut(out, api.Out{}) || done {
			t.Fatalf("%v, told %v: %v, %v, %v, not the access %v alone", op, x.log[:k], a, out, done, ask)
		}
	}
	more := append(slices.Clone(x.log), api.Result{N: 1}, api.Result{N: math.MaxUint64, B: []byte("ab"), Fail: true})
	for k := len(x.log); k <= len(more); k++ {
		a, out, done := Next(x.n, x.c, x.me, op, more[:k])
		if !sameAccess(a, api.Access{}) || !sameOut(out, want) || !done {
			t.Fatalf("%v, told %v: %v, %v, %v, not the answer %v alone", op, more[:k], a, out, done, want)
		}
	}
}

// TestTales: whatever is told, each operation asks what the chapter says, one access
// after the other, and answers so; what else an operation has counts for nothing
// (P16.1 to P16.4).
func TestTales(t *testing.T) {
	came := map[string]int{}
	vertices := []int{0, 1, 3, 1 << 29, 1<<30 - 1}
	for seed := range uint64(30000) {
		random := lcg(seed)
		x := tale{random: random, came: came}
		x.n, x.c = []int{1, 2, 3, 64}[random(4)], []int{1, 3, 8, 65536}[random(4)]
		x.me = random(x.n)
		op := api.Op{Kind: mine[random(3)], U: vertices[random(5)], V: random(9) - 1, W: x.any()}
		x.k = uint64(op.U) << 31
		want := x.whole(op.Kind)
		x.goes(t, op, want)
	}
	for _, place := range []string{
		"the first search fails", "it is there", "full", "the second search fails", "it is there by now", "it is linked again", "it is added",
		"its search fails", "it isn't there", "it is marked again", "its death fails", "its sweep fails", "it is removed",
		"nothing is asked of", "what is asked of is marked", "it is in",
		"sealed", "failed", "it is durable", "a pop again", "no advance", "a record comes back", "the list is gone along again", "an edge is swept",
	} {
		if came[place] < 20 {
			t.Error("no tale, or few, came by:", place, came[place])
		}
	}
}
