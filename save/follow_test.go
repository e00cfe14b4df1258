package save

import (
	"math/bits"
	"slices"
	"strconv"
	"sync"
	"sync/atomic"
	"testing"

	"weald/access"
	"weald/api"
	"weald/disk"
	"weald/entry"
	"weald/frame"
)

// made is an operation that makes a record, of a vertex; birth, death, dead and set
// are those of its flag.
func made(r, u int) api.Op { return api.Op{Kind: api.OMake, U: r, W: uint64(u) << 31} }

func birth(r int) api.Op { return api.Op{Kind: api.OSave, U: r, V: api.BBirth} }

func death(r int) api.Op { return api.Op{Kind: api.OSave, U: r, V: api.BDeath} }

func dead(r int, stamp uint64) api.Op { return api.Op{Kind: api.ODead, U: r, W: stamp} }

func set(r, bit int) api.Op { return api.Op{Kind: api.OSet, U: r, V: bit} }

// thread is what one has to do, what it asks just now, and what it was told.
type thread struct {
	todo []api.Op
	op   api.Op
	log  []api.Result
}

// fact is what is known of a stamp: the key that it was made with, and the bits that
// Set put.
type fact struct {
	key uint64
	set uint64
}

// state is a world, its threads, and what is known of each stamp.
type state struct {
	w     api.World
	all   []thread
	facts []fact
}

// start is a state of c records, that are made, of the keys from 1 on; and of what
// threads do.
func start(t *testing.T, c int, todo ...[]api.Op) state {
	t.Helper()
	s := state{w: world(t, len(todo), c), facts: []fact{{}}}
	for _, l := range todo {
		s.all = append(s.all, thread{todo: l})
	}
	for r := range c {
		s.w, _ = alone(t, s.w, 0, made(r+1, r+1))
		s.facts = append(s.facts, fact{key: uint64(r+1) << 31})
	}
	return s
}

// making: is a thread amid making a record? Whoever makes it has it alone till then.
func (s state) making(r int) bool {
	return slices.ContainsFunc(s.all, func(x thread) bool { return x.op.Kind == api.OMake && x.op.U == r })
}

// begin takes what a thread is to do next, if nothing is under way, and it may: has
// it anything to do?
func (s state) begin(x *thread) bool {
	if x.op.Kind != 0 {
		return true
	}
	if len(x.todo) == 0 || s.making(x.todo[0].U) {
		return false
	}
	x.op, x.todo = x.todo[0], x.todo[1:]
	return true
}

// next is what a thread asks, or answers.
func (s state) next(me int) (api.Access, api.Out, bool) {
	return Next(s.w.Mem.T, s.w.Mem.C, me, s.all[me].op, s.all[me].log)
}

// step is the state behind one access of a thread, that may fail; what that is of;
// and whether the thread had anything to do.
func (s state) step(t *testing.T, me int, fail bool) (state, int, bool) {
	t.Helper()
	s.all, s.facts = slices.Clone(s.all), slices.Clone(s.facts)
	x := &s.all[me]
	if !s.begin(x) {
		return s, 0, false
	}
	a, _, done := s.next(me)
	if done {
		t.Fatal("it is over:", x)
	}
	if a.Kind == api.AAdd {
		s.facts = append(s.facts, fact{key: x.op.W})
	}
	was := s.w.Mem
	var r api.Result
	s.w, r = access.Do(s.w, me, a, fail)
	s.rises(t, was)
	if x.op.Kind == api.OSet && r.N == 1 && a.Kind == api.ACas {
		s.facts[a.A>>2].set |= a.A ^ a.B
	}
	x.log = append(slices.Clip(x.log), r)
	if _, out, over := s.next(me); over {
		s.end(t, x, out)
	}
	s.holds(t, s.w.Disk)
	return s, a.Kind, true
}

// synced are the entries of a disk's streams that are, each up to what is torn.
func synced(t *testing.T, d api.Disk) []api.Entry {
	t.Helper()
	var l []api.Entry
	for _, x := range d.Rows[0] {
		all, _ := frame.Split(x.Data[:x.Synced])
		for _, b := range all {
			e, code := entry.Decode(b)
			if code != api.OK {
				t.Fatal("no entry:", b)
			}
			l = append(l, e)
		}
	}
	return l
}

// holds: does each bit of a flag, but what Set put, stand behind a sync of the
// entry, of that stamp, and as it was made?
func (s state) holds(t *testing.T, d api.Disk) {
	t.Helper()
	all := synced(t, d)
	for r := 1; r <= s.w.Mem.C; r++ {
		f := s.w.Mem.Word[fieldAt(s.w.Mem.T, r, flagWord)]
		stamp := f >> 2
		x := s.facts[stamp]
		if f&1&^x.set == 1 && !slices.Contains(all, api.Entry{Kind: api.EBirth, Stamp: stamp, Key: x.key}) {
			t.Fatal("no birth of", stamp, "is synced:", all, s)
		}
		if f>>1&1&^(x.set>>1) == 1 && !slices.Contains(all, api.Entry{Kind: api.EDeath, Stamp: stamp}) {
			t.Fatal("no death of", stamp, "is synced:", all, s)
		}
	}
}

// rises: has each flag that is still of its stamp all bits that it had?
func (s state) rises(t *testing.T, was api.Mem) {
	t.Helper()
	for r := 1; r <= was.C; r++ {
		i := fieldAt(was.T, r, flagWord)
		if f, g := was.Word[i], s.w.Mem.Word[i]; f>>2 == g>>2 && f&^g != 0 {
			t.Fatal("a bit of", f, "is gone:", g, s)
		}
	}
}

// end ends a thread's operation: a Save tells yes, if the disk didn't fail, and then
// the entry is synced, of the stamp that it found.
func (s state) end(t *testing.T, x *thread, out api.Out) {
	t.Helper()
	defer func() { x.op, x.log = api.Op{}, nil }()
	bit := x.op.V
	if x.op.Kind == api.ODead {
		bit = api.BDeath
	}
	stamp := x.log[0].N >> 2
	switch {
	case x.op.Kind == api.OMake || x.op.Kind == api.OSet:
		return
	case out.Is == slices.ContainsFunc(x.log, func(r api.Result) bool { return r.Fail }):
		t.Fatal(x, out)
	case !out.Is || s.facts[stamp].set&uint64(bit) != 0 || x.op.Kind == api.ODead && stamp != x.op.W:
		return
	}
	kinds := map[int]int{api.BBirth: api.EBirth, api.BDeath: api.EDeath}
	if !slices.ContainsFunc(synced(t, s.w.Disk), func(e api.Entry) bool { return e.Kind == kinds[bit] && e.Stamp == stamp }) {
		t.Fatal("yes, and not synced:", x, s)
	}
}

// name tells a state apart from others that began like it.
func (s state) name() string {
	var b []byte
	number := func(n uint64) { b = strconv.AppendUint(append(b, ' '), n, 36) }
	for _, n := range s.w.Mem.Word {
		number(n)
	}
	for _, x := range s.w.Disk.Rows[0] {
		number(uint64(x.Synced))
		b = append(append(b, '/'), x.Data...)
	}
	for _, x := range s.facts {
		number(x.key)
		number(x.set)
	}
	for _, x := range s.all {
		number(uint64(len(x.todo)))
		number(uint64(x.op.Kind))
		for _, r := range x.log {
			number(r.N)
			b = strconv.AppendBool(b, r.Fail)
		}
	}
	return string(b)
}

// everyWay plays threads to their ends, whoever steps when, and whatever fails, from
// each state that isn't among those that were seen.
func everyWay(t *testing.T, s state, seen map[string]bool) {
	t.Helper()
	name := s.name()
	if seen[name] {
		return
	}
	seen[name] = true
	for me := range s.all {
		after, kind, steps := s.step(t, me, false)
		if !steps {
			continue
		}
		everyWay(t, after, seen)
		if access.Disk(kind) {
			after, _, _ = s.step(t, me, true)
			everyWay(t, after, seen)
		}
	}
}

// TestEveryWay: whoever steps when, and whatever fails, a bit of a flag, but one that
// Set put, stands only behind a sync of the entry, and for no other stamp; and it
// stays (P14.8).
func TestEveryWay(t *testing.T) {
	for _, x := range []struct {
		c    int
		todo [][]api.Op
	}{
		{1, [][]api.Op{{birth(1)}, {birth(1)}}},
		{1, [][]api.Op{{birth(1), birth(1)}, {death(1), death(1)}}},
		{1, [][]api.Op{{birth(1), death(1)}, {dead(1, 1)}}},
		{1, [][]api.Op{{birth(1)}, {made(1, 5), birth(1)}}},
		{1, [][]api.Op{{death(1)}, {made(1, 5), death(1)}}},
		{1, [][]api.Op{{death(1)}, {made(1, 5), birth(1), dead(1, 1)}}},
		{1, [][]api.Op{{dead(1, 1)}, {death(1), made(1, 5)}}},
		{1, [][]api.Op{{dead(1, 2)}, {made(1, 5), made(1, 6), death(1)}}},
		{1, [][]api.Op{{set(1, api.BDeath)}, {death(1), made(1, 5), death(1)}}},
		{1, [][]api.Op{{set(1, api.BBirth)}, {set(1, api.BDeath), made(1, 5), set(1, api.BBirth), birth(1)}}},
		{2, [][]api.Op{{birth(1), birth(2)}, {death(2), made(2, 5)}}},
		{1, [][]api.Op{{birth(1)}, {death(1)}, {dead(1, 1)}}},
		{1, [][]api.Op{{death(1)}, {dead(1, 1)}, {made(1, 5)}}},
		{1, [][]api.Op{{death(1)}, {set(1, api.BDeath)}, {made(1, 5)}}},
	} {
		everyWay(t, start(t, x.c, x.todo...), map[string]bool{})
	}
}

// TestScripts: so it is for more threads and records, and for longer; and behind a
// crash too, whatever is left (P14.8).
func TestScripts(t *testing.T) {
	const records = 3
	put := 0
	for seed := range uint64(40) {
		x := seed
		random := func(n int) int {
			x = x*6364136223846793005 + 1442695040888963407
			return int(x >> 33 % uint64(n))
		}
		todo := make([][]api.Op, []int{2, 3, 5, 64}[seed%4])
		for me := range todo {
			for range 12 {
				r, bit := 1+random(records), 1+random(2)
				ops := []api.Op{birth(r), birth(r), death(r), made(r, random(1<<30)), set(r, bit), dead(r, uint64(random(30))), {Kind: api.OSave, U: r, V: bit}}
				todo[me] = append(todo[me], ops[random(len(ops))])
			}
		}
		s := start(t, records, todo...)
		cuts := make([]int, len(todo))
		for range 1200 {
			s, _, _ = s.step(t, random(len(todo)), random(9) == 0)
			for i := range cuts {
				cuts[i] = random(60) - 10
			}
			s.holds(t, disk.Crash(s.w.Disk, cuts))
		}
		for _, b := range s.w.Disk.Rows[0] {
			if _, whole := frame.Split(b.Data); whole != len(b.Data) {
				t.Fatal("no frame at", whole, "of", b)
			}
		}
		for r := 1; r <= records; r++ {
			put += bits.OnesCount64(s.w.Mem.Word[fieldAt(len(todo), r, flagWord)] & 3)
		}
	}
	if put == 0 {
		t.Error("no script leaves a bit")
	}
}

// book is what threads that run have synced, by the kind and the stamp.
type book struct {
	lock sync.Mutex
	has  map[api.Entry]bool
}

// note notes the entries of bytes.
func (b *book) note(data []byte) {
	b.lock.Lock()
	defer b.lock.Unlock()
	all, _ := frame.Split(data)
	for _, x := range all {
		e, _ := entry.Decode(x)
		b.has[api.Entry{Kind: e.Kind, Stamp: e.Stamp}] = true
	}
}

// noted: is an entry?
func (b *book) noted(kind int, stamp uint64) bool {
	b.lock.Lock()
	defer b.lock.Unlock()
	return b.has[api.Entry{Kind: kind, Stamp: stamp}]
}

// shared makes accesses of words that threads share, and of one thread's stream,
// that is noted when it is synced; a bit that comes by a cas ahead of that is wrong.
func shared(words []uint64, b *book, wrong *atomic.Int64) api.Do {
	var stream []byte
	return func(a api.Access) api.Result {
		switch a.Kind {
		case api.AAppend:
			stream = append(stream, a.Data...)
			return api.Result{}
		case api.ASync:
			b.note(stream)
			stream = nil
			return api.Result{}
		}
		p := &words[a.Cell]
		switch {
		case a.Kind == api.AStore:
			atomic.StoreUint64(p, a.A)
		case a.Kind == api.ALoad:
			return api.Result{N: atomic.LoadUint64(p)}
		case a.Kind == api.AAdd:
			return api.Result{N: atomic.AddUint64(p, a.A) - a.A}
		case a.Kind == api.ACas && atomic.CompareAndSwapUint64(p, a.A, a.B):
			if !b.noted(int(a.A^a.B), a.A>>2) {
				wrong.Add(1)
			}
			return api.Result{N: 1}
		}
		return api.Result{}
	}
}

// TestThreads: so it is for threads that run (P14.8).
func TestThreads(t *testing.T) {
	const many, records, rounds = 8, 2, 2000
	w := world(t, many, records)
	b := &book{has: map[api.Entry]bool{}}
	var wrong, saved atomic.Int64
	Make(shared(w.Mem.Word, b, &wrong), many, 1, api.Entry{}, 0)
	Make(shared(w.Mem.Word, b, &wrong), many, 2, api.Entry{}, 0)
	var all sync.WaitGroup
	for me := range many {
		do := shared(w.Mem.Word, b, &wrong)
		all.Go(func() {
			for k := range rounds {
				r := 1 + (k+me)%records
				if me < records && k%5 == 0 {
					Make(do, many, me+1, api.Entry{Key: uint64(k) << 31}, 0)
				}
				if Save(do, many, r, []int{api.BBirth, api.BDeath}[k/2%2]) && Dead(do, many, r, uint64(k/3)) {
					saved.Add(1)
				}
			}
		})
	}
	all.Wait()
	if wrong.Load() != 0 || saved.Load() != many*rounds {
		t.Error(wrong.Load(), "bits are put ahead of their entries;", saved.Load(), "yes")
	}
	if n := w.Mem.Word[api.CCount]; n != records+records*rounds/5 {
		t.Error("stamps:", n)
	}
}
