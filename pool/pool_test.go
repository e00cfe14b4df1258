package pool

import (
	"bytes"
	"fmt"
	"math"
	"slices"
	"sync"
	"sync/atomic"
	"testing"

	"weald/access"
	"weald/api"
	"weald/cell"
	"weald/play"
)

// threads are how many a memory may be for: few, and the most.
var threads = []int{1, 2, 3, 63, 64}

// links are what a record's link may say: references, and words of which just
// the lowest 20 bits are one.
var links = []uint64{0, 1, 2, 3, 65535, 65536, 1<<20 - 1, 1 << 20, 1<<20 + 5, 1<<40 + 7, math.MaxUint64 - 1, math.MaxUint64}

// tags are those of tops: small ones, and those at the bound of 44 bits.
var tags = []uint64{0, 1, 2, 255, 1 << 32, 1<<43 - 1, 1<<44 - 2, 1<<44 - 1}

// otherKinds are those of no operation of the chapter.
func otherKinds() []int {
	l := []int{math.MinInt, math.MinInt + 1, math.MinInt + 2, math.MinInt32, -2, -1, 257, 258, 1<<32 + 1, 1<<32 + 2, math.MaxInt}
	for kind := range 40 {
		if kind != api.OPop && kind != api.OPush {
			l = append(l, kind)
		}
	}
	return l
}

// topOf is chapter 8's word of a top.
func topOf(ref, tag uint64) uint64 { return ref + tag<<20 }

// linkAt is the place of a record's link.
func linkAt(t, r int) int { return 8 + t + 8*(r-1) + 7 }

// sameAccess: are two accesses the same? (Two lists are, if their elements are.)
func sameAccess(a, b api.Access) bool {
	return a.Kind == b.Kind && a.Cell == b.Cell && a.A == b.A && a.B == b.B && bytes.Equal(a.Data, b.Data) && slices.Equal(a.Word, b.Word)
}

// sameOut: are two answers the same?
func sameOut(a, b api.Out) bool {
	return a.Err == b.Err && a.Is == b.Is && a.N == b.N && a.W == b.W && slices.Equal(a.List, b.List)
}

// tale is what an operation asks, and is told, one after the other; and what it
// answers then.
type tale struct {
	asks []api.Access
	log  []api.Result
	out  api.Out
}

// add lays an access, and what it is told, behind those of a tale.
func (x *tale) add(a api.Access, told uint64) {
	x.asks = append(x.asks, a)
	x.log = append(x.log, api.Result{N: told})
}

// popRound lays a round of Pop, as the chapter tells it: the top is loaded, and,
// if it has a record, its link, and the top is turned, if it may.
func (x *tale) popRound(t int, top, link, done uint64) {
	x.add(api.Access{Kind: api.ALoad, Cell: 1}, top)
	r := top % (1 << 20)
	if r == 0 {
		return
	}
	x.add(api.Access{Kind: api.ALoad, Cell: linkAt(t, int(r))}, link)
	tag := (top>>20 + 1) % (1 << 44)
	x.add(api.Access{Kind: api.ACas, Cell: 1, A: top, B: topOf(link%(1<<20), tag)}, done)
	if done == 1 {
		x.out.N = int(r)
	}
}

// pushRound lays a round of Push of a record, as the chapter tells it.
func (x *tale) pushRound(t, r int, top, stored, done uint64) {
	x.add(api.Access{Kind: api.ALoad, Cell: 1}, top)
	x.add(api.Access{Kind: api.AStore, Cell: linkAt(t, r), A: top % (1 << 20)}, stored)
	tag := (top>>20 + 1) % (1 << 44)
	x.add(api.Access{Kind: api.ACas, Cell: 1, A: top, B: topOf(uint64(r), tag)}, done)
}

// goes: does an operation ask just what a tale says, told each beginning of its
// log, and answer what it says, whatever of a log is left?
func (x *tale) goes(t *testing.T, n, c, me int, op api.Op) {
	t.Helper()
	for k, want := range x.asks {
		a, out, done := Next(n, c, me, op, x.log[:k])
		if !sameAccess(a, want) || !sameOut(out, api.Out{}) || done {
			t.Fatalf("%v for %d, told %v: %v, %v, %v, not the access %v alone", op, n, x.log[:k], a, out, done, want)
		}
	}
	more := append(slices.Clone(x.log), api.Result{N: 1}, api.Result{N: math.MaxUint64, B: []byte("ab"), Fail: true})
	for k := len(x.log); k <= len(more); k++ {
		a, out, done := Next(n, c, me, op, more[:k])
		if !sameAccess(a, api.Access{}) || !sameOut(out, x.out) || !done {
			t.Fatalf("%v for %d, told %v: %v, %v, %v, not the answer %v alone", op, n, more[:k], a, out, done, x.out)
		}
	}
}

// calls: does a call that is handed a tale's Do ask just what the tale says?
func (x *tale) calls(t *testing.T, call func(do api.Do) int) {
	t.Helper()
	k := 0
	n := call(func(a api.Access) api.Result {
		if k >= len(x.asks) || !sameAccess(a, x.asks[k]) {
			t.Fatalf("the access %d is %v, not of %v", k, a, x.asks)
		}
		k++
		return x.log[k-1]
	})
	if k != len(x.asks) || n != x.out.N {
		t.Fatalf("%d accesses, and %d, not %d, and %d", k, n, len(x.asks), x.out.N)
	}
}

// memory is a new memory.
func memory(t *testing.T, n, c int) api.Mem {
	t.Helper()
	m, e := cell.New(n, c)
	if e != api.OK {
		t.Fatal(e)
	}
	return m
}

// on makes accesses of a memory's words, in place.
func on(m api.Mem) api.Do {
	return func(a api.Access) api.Result {
		was := m.Word[a.Cell]
		switch {
		case a.Kind == api.AStore:
			m.Word[a.Cell] = a.A
			return api.Result{}
		case a.Kind == api.ACas && was == a.A:
			m.Word[a.Cell] = a.B
			return api.Result{N: 1}
		case a.Kind == api.ACas:
			return api.Result{}
		}
		return api.Result{N: was}
	}
}

// free are the records that are free, from the top on, if they are a chain that
// ends.
func free(t *testing.T, m api.Mem) []int {
	t.Helper()
	var l []int
	for r := m.Word[1] % (1 << 20); r != 0; r = m.Word[linkAt(m.T, int(r))] % (1 << 20) {
		l = append(l, int(r))
		if int(r) > m.C || len(l) > m.C {
			t.Fatal("no chain of records:", l)
		}
	}
	return l
}

// TestExample: that of the chapter (P12.1, P12.2).
func TestExample(t *testing.T) {
	m := memory(t, 2, 3)
	do := on(m)
	one, two := Pop(do, 2), Pop(do, 2)
	Push(do, 2, 1)
	if again := Pop(do, 2); one != 1 || two != 2 || again != 1 {
		t.Error(one, two, again)
	}
}

// TestPop: it loads the top, and the link of the record there, turns the top to
// what that says, with a tag more, and tells the record (P12.1, P12.3).
func TestPop(t *testing.T) {
	for _, n := range threads {
		for _, r := range []uint64{1, 2, 7, 65535, 65536, 1<<20 - 1} {
			for _, tag := range tags {
				for _, link := range links {
					var x tale
					x.popRound(n, topOf(r, tag), link, 1)
					x.goes(t, n, 65536, 0, api.Op{Kind: api.OPop})
					x.calls(t, func(do api.Do) int { return Pop(do, n) })
				}
			}
		}
	}
}

// TestPopNone: where no record is free, it loads the top alone, whatever its tag,
// and tells 0 (P12.1, P12.3).
func TestPopNone(t *testing.T) {
	for _, n := range threads {
		for _, tag := range tags {
			var x tale
			x.popRound(n, topOf(0, tag), 0, 0)
			if len(x.asks) != 1 {
				t.Fatal(x)
			}
			x.goes(t, n, 3, 0, api.Op{Kind: api.OPop})
			x.calls(t, func(do api.Do) int { return Pop(do, n) })
		}
	}
}

// TestPopAgain: until its turn is done, or nothing is free, it begins again, and
// goes by what is told then (P12.1).
func TestPopAgain(t *testing.T) {
	for rounds := 1; rounds < 12; rounds++ {
		for _, failed := range []uint64{0, 2, math.MaxUint64} {
			var begun tale
			for k := range rounds {
				top := topOf(uint64(k*k+1), tags[k%len(tags)])
				begun.popRound(3, top, links[(k*5+rounds)%len(links)], failed)
			}
			for _, top := range []uint64{topOf(5, 1<<44-1), topOf(5, 9), topOf(1, 0), topOf(0, 8), 0} {
				x := tale{asks: slices.Clone(begun.asks), log: slices.Clone(begun.log)}
				x.popRound(3, top, 4, 1)
				x.goes(t, 3, 200, 2, api.Op{Kind: api.OPop})
				x.calls(t, func(do api.Do) int { return Pop(do, 3) })
			}
		}
	}
}

// TestPush: it loads the top, stores its record as the link of the one that is
// pushed, and turns the top to that, with a tag more (P12.2, P12.3).
func TestPush(t *testing.T) {
	for _, n := range threads {
		for _, r := range []int{1, 2, 7, 65535, 65536} {
			for _, tag := range tags {
				for _, ref := range []uint64{0, 1, 2, 65536, 1<<20 - 1} {
					for _, stored := range []uint64{0, 1, math.MaxUint64} {
						var x tale
						x.pushRound(n, r, topOf(ref, tag), stored, 1)
						x.goes(t, n, 65536, 0, api.Op{Kind: api.OPush, U: r})
						x.calls(t, func(do api.Do) int { Push(do, n, r); return 0 })
					}
				}
			}
		}
	}
}

// TestPushAgain: until its turn is done, it begins again, and goes by what is
// told then (P12.2).
func TestPushAgain(t *testing.T) {
	for rounds := 1; rounds < 12; rounds++ {
		for _, failed := range []uint64{0, 2, math.MaxUint64} {
			var x tale
			for k := range rounds {
				x.pushRound(3, 6, topOf(uint64(k*k%7), tags[k%len(tags)]), uint64(k), failed)
			}
			x.pushRound(3, 6, topOf(uint64(rounds%2), 77), 0, 1)
			x.goes(t, 3, 200, 2, api.Op{Kind: api.OPush, U: 6})
			x.calls(t, func(do api.Do) int { Push(do, 3, 6); return 0 })
		}
	}
}

// TestNextAlike: who asks, of how many records, and what an operation has beside
// what its kind takes, count for nothing (P12.3, R4).
func TestNextAlike(t *testing.T) {
	var pop, push tale
	pop.popRound(2, topOf(3, 4), 9, 0)
	pop.popRound(2, topOf(2, 5), 1, 1)
	push.pushRound(2, 4, topOf(3, 4), 0, 0)
	push.pushRound(2, 4, topOf(0, 5), 0, 1)
	for _, c := range []int{4, 5, 65536} {
		for me := range 2 {
			for _, n := range []int{math.MinInt, -1, 0, 1, 2, 3, 65536, math.MaxInt} {
				for range 2 {
					pop.goes(t, 2, c, me, api.Op{Kind: api.OPop, U: n, V: -n, W: uint64(n)})
					push.goes(t, 2, c, me, api.Op{Kind: api.OPush, U: 4, V: n, W: uint64(n)})
				}
			}
		}
	}
}

// TestNextOther: of any other kind there is no access, whatever is told, and the
// answer is ErrArg alone (P12.3).
func TestNextOther(t *testing.T) {
	long := tale{out: api.Out{Err: api.ErrArg}}
	for k := range 7 {
		long.log = append(long.log, api.Result{N: uint64(k) % 3, Fail: k == 4})
	}
	for _, kind := range otherKinds() {
		for _, op := range []api.Op{{Kind: kind}, {Kind: kind, U: 1, V: 1, W: 1}, {Kind: kind, U: -1, V: math.MaxInt, W: math.MaxUint64}} {
			for _, log := range [][]api.Result{nil, {}, long.log} {
				x := tale{log: log, out: long.out}
				x.goes(t, 2, 3, 1, op)
			}
		}
	}
}

// TestNobody: where nobody makes accesses, each call ends.
func TestNobody(t *testing.T) {
	Push(nil, 1, 1)
	if r := Pop(nil, 1); r != 0 {
		t.Error("nobody tells", r)
	}
}

// TestUnwritten: what is handed in is as it was (R3).
func TestUnwritten(t *testing.T) {
	log := []api.Result{{N: 1, B: []byte("ab")}, {N: 2, B: []byte("cd")}, {N: 1, B: []byte("ef")}, {N: 9}}
	for k := range log {
		for _, op := range []api.Op{{Kind: api.OPop}, {Kind: api.OPush, U: 1}, {Kind: api.OPin}} {
			Next(1, 2, 0, op, log[:k])
		}
	}
	if log[0].N != 1 || log[1].N != 2 || log[2].N != 1 || log[3].N != 9 || string(log[0].B)+string(log[1].B)+string(log[2].B) != "abcdef" {
		t.Error("what was handed in is turned:", log)
	}
}

// TestAloneAll: alone, all records of a new memory are handed out as they lie,
// and then none; and, pushed, the other way round (P12.4).
func TestAloneAll(t *testing.T) {
	for _, c := range []int{0, 1, 2, 3, 64, 65535, 65536} {
		m := memory(t, 2, c)
		do := on(m)
		for range 2 {
			if r := Pop(do, 2); c == 0 && r != 0 {
				t.Error("of none:", r)
			} else if c > 0 {
				Push(do, 2, r)
			}
		}
		for want := 1; want <= c+2; want++ {
			if r := Pop(do, 2); r != want && want <= c || r != 0 && want > c {
				t.Fatal(c, "records:", r, "not", want)
			}
		}
		for r := 1; r <= c; r++ {
			Push(do, 2, r)
		}
		for want := c; want >= 0; want-- {
			if r := Pop(do, 2); r != want {
				t.Fatal(c, "records:", r, "not", want)
			}
		}
	}
}

// alone plays an operation on a world to its end.
func alone(t *testing.T, w api.World, op api.Op) (api.World, api.Out) {
	t.Helper()
	var log []api.Result
	for range 10 {
		a, out, done := Next(w.Mem.T, w.Mem.C, 0, op, log)
		if done {
			return w, out
		}
		var r api.Result
		w, r = access.Do(w, 0, a, false)
		log = append(log, r)
	}
	t.Fatal("no end:", op, log)
	return w, api.Out{}
}

// TestAlone: alone, Pop tells what was pushed last, of what is free; and no word
// is turned but the top, and links (P12.4, R4).
func TestAlone(t *testing.T) {
	const threads, records = 3, 5
	seed := uint64(1)
	w := api.World{Mem: memory(t, threads, records)}
	for i := range w.Mem.Word {
		if i != 1 && (i < linkAt(threads, 1) || (i-linkAt(threads, 1))%8 != 0) {
			w.Mem.Word[i] = uint64(i) << 50
		}
	}
	old := slices.Clone(w.Mem.Word)
	var held []int
	stack := []int{1, 2, 3, 4, 5}
	for turn := range 3000 {
		seed = seed*6364136223846793005 + 1442695040888963407
		if seed>>40%2 == 0 || len(held) == 0 {
			want := 0
			if len(stack) > 0 {
				want, stack = stack[0], stack[1:]
				held = append(held, want)
			}
			var out api.Out
			if w, out = alone(t, w, api.Op{Kind: api.OPop}); !sameOut(out, api.Out{N: want}) {
				t.Fatal(turn, out, "not", want)
			}
		} else {
			i := int(seed>>33) % len(held)
			r := held[i]
			held = slices.Delete(held, i, i+1)
			stack = append([]int{r}, stack...)
			var out api.Out
			if w, out = alone(t, w, api.Op{Kind: api.OPush, U: r}); !sameOut(out, api.Out{}) {
				t.Fatal(turn, out)
			}
		}
		if l := free(t, w.Mem); !slices.Equal(l, stack) {
			t.Fatal(turn, l, "are free, not", stack)
		}
	}
	for i, n := range w.Mem.Word {
		if old[i]>>50 != 0 && n != old[i] {
			t.Error("the word", i, "is turned:", n)
		}
	}
}

// thread is one that pops (p), or pushes what it has: the oldest (o), or the
// newest (n); what it asks just now, and was told; and what it has.
type thread struct {
	todo string
	op   api.Op
	log  []api.Result
	has  []int
}

// begin takes what is to do next, if nothing is under way: is there anything?
func (x *thread) begin() bool {
	for x.op.Kind == 0 && x.todo != "" {
		what := x.todo[0]
		x.todo = x.todo[1:]
		switch {
		case what == 'p':
			x.op = api.Op{Kind: api.OPop}
		case len(x.has) > 0 && what == 'o':
			x.op = api.Op{Kind: api.OPush, U: x.has[0]}
		case len(x.has) > 0:
			x.op = api.Op{Kind: api.OPush, U: x.has[len(x.has)-1]}
		}
	}
	return x.op.Kind != 0
}

// step makes one access of a thread that has begun, and ends what is over.
func (x *thread) step(t *testing.T, w api.World, me int) api.World {
	t.Helper()
	a, _, done := Next(w.Mem.T, w.Mem.C, me, x.op, x.log)
	if done {
		t.Fatal("it is over:", x)
	}
	w, r := access.Do(w, me, a, false)
	x.log = append(slices.Clip(x.log), r)
	_, out, done := Next(w.Mem.T, w.Mem.C, me, x.op, x.log)
	if !done {
		return w
	}
	if x.op.Kind == api.OPop && out.N != 0 {
		x.has = append(slices.Clip(x.has), out.N)
	} else if x.op.Kind == api.OPush {
		i := slices.Index(x.has, x.op.U)
		x.has = slices.Delete(slices.Clone(x.has), i, i+1)
	}
	x.op, x.log = api.Op{}, nil
	return w
}

// owned: is each record free, or one thread's?
func owned(t *testing.T, m api.Mem, all []thread) {
	t.Helper()
	l := free(t, m)
	for _, x := range all {
		l = append(l, x.has...)
	}
	slices.Sort(l)
	for i, r := range l {
		if r != i+1 {
			t.Fatal("not each record is free, or one thread's:", l, free(t, m), all)
		}
	}
	if len(l) != m.C {
		t.Fatal("records are lost:", l, free(t, m), all)
	}
}

// everyWay plays threads to their ends, whoever steps when, from each state that
// isn't among those that were seen.
func everyWay(t *testing.T, w api.World, all []thread, seen map[string]bool) {
	t.Helper()
	state := fmt.Sprint(w.Mem.Word, all)
	if seen[state] {
		return
	}
	seen[state] = true
	for me := range all {
		then := slices.Clone(all)
		if !then[me].begin() {
			continue
		}
		next := then[me].step(t, w, me)
		owned(t, next.Mem, then)
		everyWay(t, next, then, seen)
	}
}

// TestEveryWay: whoever steps when, each record is free, or one thread's, behind
// each access (P12.4).
func TestEveryWay(t *testing.T) {
	for c := range 4 {
		for _, one := range []string{"p", "po", "pp", "popo"} {
			for _, other := range []string{"p", "po", "ppo", "ppn", "pop", "ppp", "ppopo", "pppooo"} {
				w := api.World{Mem: memory(t, 2, c)}
				everyWay(t, w, []thread{{todo: one}, {todo: other}}, map[string]bool{})
			}
		}
	}
	for c := range 4 {
		w := api.World{Mem: memory(t, 3, c)}
		everyWay(t, w, []thread{{todo: "p"}, {todo: "po"}, {todo: "ppo"}}, map[string]bool{})
	}
}

// TestComesBack: a thread that has loaded the top and its link is late, if the
// same record is the top again by then: what was behind it isn't free any more
// (P12.1, P12.4).
func TestComesBack(t *testing.T) {
	w := api.World{Mem: memory(t, 2, 3)}
	all := []thread{{todo: "p"}, {todo: "ppo"}}
	for _, me := range []int{0, 0, 1, 1, 1, 1, 1, 1, 1, 1, 1, 0} {
		all[me].begin()
		w = all[me].step(t, w, me)
		owned(t, w.Mem, all)
	}
	if all[0].op.Kind != api.OPop || len(all[0].has) != 0 || !slices.Equal(all[1].has, []int{2}) || !slices.Equal(free(t, w.Mem), []int{1, 3}) {
		t.Error(all, free(t, w.Mem))
	}
	for range 3 {
		w = all[0].step(t, w, 0)
	}
	if !slices.Equal(all[0].has, []int{1}) || !slices.Equal(free(t, w.Mem), []int{3}) {
		t.Error(all, free(t, w.Mem))
	}
}

// TestScripts: so it is for more threads, and for longer (P12.4).
func TestScripts(t *testing.T) {
	for seed := range uint64(60) {
		s := seed
		n := []int{2, 3, 5, 64}[seed%4]
		w := api.World{Mem: memory(t, n, int(seed/4%9))}
		all := make([]thread, n)
		for me := range all {
			for range 12 {
				s = s*6364136223846793005 + 1442695040888963407
				all[me].todo += string("ppon"[s>>62])
			}
		}
		for range 2000 {
			s = s*6364136223846793005 + 1442695040888963407
			me := int(s >> 33 % uint64(n))
			if all[me].begin() {
				w = all[me].step(t, w, me)
				owned(t, w.Mem, all)
			}
		}
	}
}

// TestGoesRound: so it is where tags go round (P12.1, P12.2, P12.4, R5).
func TestGoesRound(t *testing.T) {
	w := api.World{Mem: memory(t, 2, 3)}
	w.Mem.Word[1] = topOf(1, 1<<44-2)
	everyWay(t, w, []thread{{todo: "po"}, {todo: "ppo"}}, map[string]bool{})
	w, out := alone(t, w, api.Op{Kind: api.OPop})
	if out.N != 1 || w.Mem.Word[1] != topOf(2, 1<<44-1) {
		t.Error(out, w.Mem.Word[1])
	}
	w, _ = alone(t, w, api.Op{Kind: api.OPush, U: 1})
	if w.Mem.Word[1] != 1 {
		t.Error(w.Mem.Word[1])
	}
	if w, out = alone(t, w, api.Op{Kind: api.OPop}); out.N != 1 || w.Mem.Word[1] != topOf(2, 1) {
		t.Error(out, w.Mem.Word[1])
	}
}

// shared makes accesses of words that threads share.
func shared(words []uint64) api.Do {
	return func(a api.Access) api.Result {
		p := &words[a.Cell]
		switch {
		case a.Kind == api.AStore:
			atomic.StoreUint64(p, a.A)
		case a.Kind == api.ALoad:
			return api.Result{N: atomic.LoadUint64(p)}
		case a.Kind == api.ACas && atomic.CompareAndSwapUint64(p, a.A, a.B):
			return api.Result{N: 1}
		}
		return api.Result{}
	}
}

// TestThreads: so it is for threads that run (P12.4).
func TestThreads(t *testing.T) {
	const many, records, rounds = 8, 5, 4000
	m := memory(t, many, records)
	do := shared(m.Word)
	var owner [records + 1]atomic.Int32
	var wrong atomic.Int32
	work := func() {
		for range rounds {
			one, two := Pop(do, many), Pop(do, many)
			for _, r := range []int{one, two} {
				if r != 0 && owner[r].Add(1) != 1 {
					wrong.Add(1)
				}
			}
			for _, r := range []int{one, two} {
				if r != 0 {
					owner[r].Add(-1)
					Push(do, many, r)
				}
			}
		}
	}
	var all sync.WaitGroup
	for range many {
		all.Go(work)
	}
	all.Wait()
	if n := wrong.Load(); n != 0 {
		t.Error("records that are two threads':", n)
	}
	owned(t, m, nil)
}

// TestPlayed: played by Run as a part of another program, a call is left and gone
// on with as any other (P12.3).
func TestPlayed(t *testing.T) {
	prog := func(do api.Do) api.Out {
		r := Pop(do, 2)
		Push(do, 2, r)
		return api.Out{N: r, W: play.Load(do, 1)}
	}
	var x tale
	x.popRound(2, topOf(3, 4), 9, 0)
	x.popRound(2, topOf(2, 5), 1, 1)
	x.pushRound(2, 2, topOf(1, 6), 0, 1)
	x.add(api.Access{Kind: api.ALoad, Cell: 1}, 77)
	for k, want := range x.asks {
		if a, _, done := play.Run(prog, x.log[:k]); !sameAccess(a, want) || done {
			t.Error(k, a, done)
		}
	}
	if _, out, done := play.Run(prog, x.log); !sameOut(out, api.Out{N: 2, W: 77}) || !done {
		t.Error(out, done)
	}
}
