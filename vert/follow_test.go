package vert

import (
	"maps"
	"slices"
	"strconv"
	"sync"
	"sync/atomic"
	"testing"

	"weald/access"
	"weald/api"
	"weald/disk"
	"weald/entry"
	"weald/epoch"
	"weald/frame"
	"weald/key"
	"weald/list"
	"weald/play"
	"weald/save"
)

// chain are the records from a word on, by another word of each; none is told twice.
func chain(t *testing.T, first int, behind func(r int) int) []int {
	t.Helper()
	var l []int
	for r := first; r != 0; r = behind(r) {
		if slices.Contains(l, r) {
			t.Fatal("it goes round:", l, r)
		}
		l = append(l, r)
	}
	return l
}

// listed are the records of the list, marked or not.
func listed(t *testing.T, m api.Mem) []int {
	t.Helper()
	return chain(t, refOf(m.Word[0]), func(r int) int { return refOf(m.Word[fieldAt(m.T, r, nextWord)]) })
}

// unlisted are the records that are free, or retired.
func unlisted(t *testing.T, m api.Mem) []int {
	t.Helper()
	var l []int
	for _, first := range []uint64{m.Word[1] % (1 << 20), m.Word[4], m.Word[5], m.Word[6]} {
		l = append(l, chain(t, int(first), func(r int) int { return int(m.Word[fieldAt(m.T, r, linkWord)]) })...)
	}
	return l
}

// isMarked: is a record marked? keyIn is its key.
func isMarked(m api.Mem, r int) bool { return m.Word[fieldAt(m.T, r, nextWord)]%2 == 1 }

func keyIn(m api.Mem, r int) uint64 { return m.Word[fieldAt(m.T, r, keyWord)] }

// open are the keys of the list's records that aren't marked; the list's keys rise.
func open(t *testing.T, m api.Mem) []uint64 {
	t.Helper()
	var l []uint64
	above := uint64(0)
	for _, r := range listed(t, m) {
		k := keyIn(m, r)
		if k < above {
			t.Fatal("the list doesn't rise:", k)
		}
		if above = k + 1; !isMarked(m, r) {
			l = append(l, k)
		}
	}
	return l
}

// whole: is each record in one place?
func whole(t *testing.T, m api.Mem) {
	t.Helper()
	all := slices.Concat(listed(t, m), unlisted(t, m))
	slices.Sort(all)
	for i, r := range all {
		if r != i+1 || len(all) != m.C {
			t.Fatal("records are in none, or two places:", all, "of", m.C)
		}
	}
}

// live are the keys of what is born, and not dead, as streams say: a vertex, or an edge
// whose ends live. No stamp is of two births, and no key of two that live.
func live(t *testing.T, streams [][]byte) []uint64 {
	t.Helper()
	births, dead := map[uint64]api.Entry{}, map[uint64]bool{}
	for _, b := range streams {
		all, _ := frame.Split(b)
		for _, b := range all {
			e, code := entry.Decode(b)
			if was, is := births[e.Stamp]; code != api.OK || e.Kind == api.EBirth && is && was != e {
				t.Fatal("no entry, or two births of a stamp:", b, was)
			}
			if e.Kind == api.EDeath {
				dead[e.Stamp] = true
			} else {
				births[e.Stamp] = e
			}
		}
	}
	var l []uint64
	for s, e := range births {
		_, u := births[e.SU]
		_, v := births[e.SV]
		edge := e.Key%(1<<31) != 0
		if !dead[s] && (!edge || u && v && !dead[e.SU] && !dead[e.SV]) {
			l = append(l, e.Key)
		}
	}
	slices.Sort(l)
	if two := slices.Compact(slices.Clone(l)); len(two) != len(l) {
		t.Fatal("two that live have one key:", l)
	}
	return l
}

// data are the bytes of a disk's streams.
func data(d api.Disk) [][]byte {
	var l [][]byte
	for _, x := range d.Rows[0] {
		l = append(l, x.Data)
	}
	return l
}

// ran plays a program of thread 0 on a world to its end.
func ran(t *testing.T, w api.World, prog func(do api.Do) api.Out) (api.World, api.Out) {
	t.Helper()
	var log []api.Result
	for range 10000 {
		a, out, done := play.Run(prog, log)
		if done {
			return w, out
		}
		var r api.Result
		w, r = access.Do(w, 0, a, false)
		log = append(log, r)
	}
	t.Fatal("no end")
	return w, api.Out{}
}

// joined is a world with an edge more, of two vertices that are in.
func joined(t *testing.T, w api.World, u, v int) (api.World, api.Out) {
	t.Helper()
	n := w.Mem.T
	stamp := func(do api.Do, u int) uint64 {
		k, _ := key.Vertex(u)
		_, x, _, _ := list.Search(do, n, k)
		return play.Load(do, fieldAt(n, x, flagWord)) >> 2
	}
	return ran(t, w, func(do api.Do) api.Out {
		return save.In(do, 0, func() (api.Out, bool) {
			k, _ := key.Edge(u, v)
			e := api.Entry{Key: k, SU: stamp(do, u), SV: stamp(do, v), W: 5}
			r := epoch.Alloc(do, n, 0)
			if r == 0 {
				return api.Out{Err: api.ErrFull}, true
			}
			save.Make(do, n, r, e, 0)
			pred, curr, _, ok := list.Search(do, n, k)
			return api.Out{Is: list.Link(do, n, pred, curr, r)}, ok && save.Save(do, n, r, api.BBirth)
		})
	})
}

// plain are the vertices and edges of a world, as one would write them down.
type plain struct {
	w  api.World
	in map[int]bool
	// edges are those that are in, by both ends.
	edges map[[2]int]bool
}

// same: is the world's list as it is written down, durable, and each record in one
// place?
func (p *plain) same(t *testing.T) {
	t.Helper()
	var want []uint64
	for u := range p.in {
		want = append(want, uint64(u)<<31)
	}
	for e := range p.edges {
		want = append(want, uint64(e[0])<<31+uint64(e[1])+1)
	}
	slices.Sort(want)
	if l := open(t, p.w.Mem); !slices.Equal(l, want) {
		t.Fatal("the list is", l, "not", want)
	}
	synced := data(disk.Crash(p.w.Disk, nil))
	if l := live(t, synced); !slices.Equal(l, want) {
		t.Fatal("durable is", l, "not", want)
	}
	for i, x := range p.w.Disk.Rows[0] {
		if len(x.Data) != len(synced[i]) {
			t.Fatal("it isn't synced")
		}
	}
	whole(t, p.w.Mem)
}

// does does an operation, and what it does is written down.
func (p *plain) does(t *testing.T, me int, op api.Op) {
	t.Helper()
	want := api.Out{Is: p.in[op.U]}
	switch {
	case op.Kind == api.OAddV && !want.Is && len(p.in)+len(p.edges) == p.w.Mem.C:
		want.Err = api.ErrFull
	case op.Kind == api.OAddV:
		want.Is = !want.Is
		p.in[op.U] = true
	case op.Kind == api.ORemV:
		delete(p.in, op.U)
		maps.DeleteFunc(p.edges, func(e [2]int, _ bool) bool { return e[0] == op.U || e[1] == op.U })
	}
	var out api.Out
	if p.w, out, _ = played(t, p.w, me, op); !sameOut(out, want) {
		t.Fatal(op, "answers", out, "not", want)
	}
}

// joins adds an edge, if it may be.
func (p *plain) joins(t *testing.T, u, v int) {
	t.Helper()
	if e := [2]int{u, v}; p.in[u] && p.in[v] && !p.edges[e] {
		var out api.Out
		p.w, out = joined(t, p.w, u, v)
		if full := len(p.in)+len(p.edges) == p.w.Mem.C; full != (out.Err == api.ErrFull) || full == out.Is {
			t.Fatal("an edge of", u, v, "answers", out)
		}
		if out.Is {
			p.edges[e] = true
		}
	}
}

// marks marks a vertex's record, as one does who is amid taking it out: no more.
func (p *plain) marks(t *testing.T, u int) {
	t.Helper()
	if !p.in[u] {
		return
	}
	r := p.w.Mem.Word[0]
	for keyIn(p.w.Mem, refOf(r)) != uint64(u)<<31 {
		r = p.w.Mem.Word[fieldAt(p.w.Mem.T, refOf(r), nextWord)]
	}
	p.w, _ = ran(t, p.w, func(do api.Do) api.Out { return api.Out{Is: list.Mark(do, p.w.Mem.T, refOf(r))} })
	delete(p.in, u)
}

// TestAlone: one by one, by whichever thread, vertices are a set, that is durable; the
// edges of one that is removed go with it; and full is told just where there would be
// more than records (P16.1 to P16.5).
func TestAlone(t *testing.T) {
	for seed := range uint64(40) {
		random := lcg(seed)
		n, c := []int{1, 2, 3, 64}[random(4)], random(9)
		p := plain{w: world(t, n, c), in: map[int]bool{}, edges: map[[2]int]bool{}}
		for range 200 {
			u := []int{0, 1, 2, 3, 4, 1<<30 - 2, 1<<30 - 1}[random(7)]
			switch random(5) {
			case 0:
				p.joins(t, u, random(5))
			default:
				p.does(t, random(n), api.Op{Kind: mine[random(3)], U: u})
			}
			p.same(t)
		}
	}
}

// TestAloneMarked: what another one has marked, and no more, is out all the same, and
// its death durable, when it is asked of, added, or removed (P16.1 to P16.3).
func TestAloneMarked(t *testing.T) {
	for _, op := range []api.Op{addOf(2), removeOf(2), hasOf(2), addOf(3)} {
		p := plain{w: world(t, 2, 4), in: map[int]bool{}, edges: map[[2]int]bool{}}
		for u := range 3 {
			p.does(t, 1, addOf(u+1))
		}
		p.marks(t, 2)
		p.does(t, 1, op)
		p.same(t)
		p.does(t, 1, removeOf(9))
		p.same(t)
	}
}

// TestAloneLong: a row of very many vertices, that go and come back (P16.5).
func TestAloneLong(t *testing.T) {
	const records = 60
	p := plain{w: world(t, 2, records), in: map[int]bool{}, edges: map[[2]int]bool{}}
	for range 2 {
		for u := range records + 2 {
			p.does(t, 0, addOf(u*37%62))
		}
		p.same(t)
		for u := range records + 2 {
			p.does(t, 1, removeOf(u*23%62))
		}
		p.same(t)
	}
}

// A way is how a vertex's operations may have come one behind the other up to now: is
// the vertex in (the lowest bit); and, of those of each kind that are under way, how
// many have happened, by what they answer.
type way uint64

// one counts an operation that has happened.
func one(kind int, is bool) way {
	at := 8 + 16*(kind-api.OAddV)
	if is {
		at += 8
	}
	return 1 << at
}

// happened are how many of a kind have, and answer so.
func (x way) happened(kind int, is bool) int { return int(x / one(kind, is) % 256) }

// then is the way on which an operation happens next.
func (x way) then(kind int) way {
	in := x%2 == 1
	switch kind {
	case api.OAddV:
		return x&^1 + 1 + one(kind, !in)
	case api.ORemV:
		return x&^1 + one(kind, in)
	}
	return x + one(kind, in)
}

// watch is what is known of a vertex: how many operations of each kind are under way
// (or failed, so that they may happen at any time), and on which ways all the answers
// are as they were.
type watch struct {
	under [3]int
	ways  []way
}

// begins is the watch when an operation is asked.
func (x watch) begins(kind int) watch {
	x.under[kind-api.OAddV]++
	return x
}

// closed are the ways on which any of those that are under way happen as well.
func (x watch) closed() []way {
	all := map[way]bool{}
	var add func(y way)
	add = func(y way) {
		if all[y] {
			return
		}
		all[y] = true
		for _, kind := range mine {
			if y.happened(kind, false)+y.happened(kind, true) < x.under[kind-api.OAddV] {
				add(y.then(kind))
			}
		}
	}
	for _, y := range x.ways {
		add(y)
	}
	return slices.Sorted(maps.Keys(all))
}

// ends is the watch when an operation answers: no way is left, if that may not be. What
// is idle hasn't happened.
func (x watch) ends(kind int, out api.Out) watch {
	if out.Err == api.ErrIO {
		return x
	}
	var ways []way
	for _, y := range x.closed() {
		no, yes := y.happened(kind, false), y.happened(kind, true)
		switch {
		case out.Err != api.OK && no+yes < x.under[kind-api.OAddV]:
			ways = append(ways, y)
		case out.Err == api.OK && (out.Is && yes > 0 || !out.Is && no > 0):
			ways = append(ways, y-one(kind, out.Is))
		}
	}
	x.under[kind-api.OAddV]--
	x.ways = ways
	return x
}

// mayBe: is there a way on which the vertex is in, or isn't?
func (x watch) mayBe(in bool) bool {
	return slices.ContainsFunc(x.closed(), func(y way) bool { return (y%2 == 1) == in })
}

// thread is what one has to do, and what the first of it was told up to now.
type thread struct {
	todo []api.Op
	log  []api.Result
}

// state is a world, its threads, and what is known of each vertex.
type state struct {
	w    api.World
	all  []thread
	seen map[int]watch
}

// begun is a state of so many threads and records; some vertices, and edges of them,
// are in.
func begun(t *testing.T, n, c int, vertices []int, edges ...[2]int) state {
	t.Helper()
	s := state{w: world(t, n, c), all: make([]thread, n), seen: map[int]watch{}}
	for _, u := range vertices {
		s.w, _, _ = played(t, s.w, 0, addOf(u))
		s.seen[u] = watch{ways: []way{1}}
	}
	for _, e := range edges {
		s.w, _ = joined(t, s.w, e[0], e[1])
	}
	return s
}

// of is what is known of a vertex.
func (s state) of(u int) watch {
	if x, is := s.seen[u]; is {
		return x
	}
	return watch{ways: []way{0}}
}

// under is what a thread asks, or answers.
func (s state) under(me int) (api.Access, api.Out, bool) {
	return Next(s.w.Mem.T, s.w.Mem.C, me, s.all[me].todo[0], s.all[me].log)
}

// step is the state behind one access of a thread, that may fail; what that is of; and
// whether the thread had anything to do.
func (s state) step(t *testing.T, me int, fail bool) (state, int, bool) {
	t.Helper()
	if len(s.all[me].todo) == 0 {
		return s, 0, false
	}
	a, _, done := s.under(me)
	if done {
		t.Fatal("it is over:", me)
	}
	s.all = slices.Clone(s.all)
	x := &s.all[me]
	op := x.todo[0]
	if len(x.log) == 0 {
		s.know(op.U, s.of(op.U).begins(op.Kind))
	}
	was := s.w.Mem
	var r api.Result
	s.w, r = access.Do(s.w, me, a, fail)
	x.log = append(slices.Clip(x.log), r)
	if _, out, over := s.under(me); over {
		s.end(t, x, out)
	}
	if a.Cell == 0 || a.Kind == api.ACas {
		s.holds(t, was)
	}
	return s, a.Kind, true
}

// know lays down what is known of a vertex.
func (s *state) know(u int, x watch) {
	s.seen = maps.Clone(s.seen)
	s.seen[u] = x
}

// end ends a thread's operation: its answer is one that there is an order for.
func (s *state) end(t *testing.T, x *thread, out api.Out) {
	t.Helper()
	op := x.todo[0]
	failed := slices.ContainsFunc(x.log, func(r api.Result) bool { return r.Fail })
	bare := sameOut(out, api.Out{Is: out.Is}) || sameOut(out, api.Out{Err: out.Err})
	if failed != (out.Err == api.ErrIO) || !bare || out.Err == api.ErrFull && op.Kind != api.OAddV {
		t.Fatal(op, "answers", out, "told", x.log)
	}
	after := s.of(op.U).ends(op.Kind, out)
	if len(after.ways) == 0 {
		t.Fatal("there is no order:", op, "answers", out, "of", s.of(op.U))
	}
	s.know(op.U, after)
	x.todo, x.log = x.todo[1:], nil
}

// holds: do the list's records rise, and stay marked once they are?
func (s *state) holds(t *testing.T, was api.Mem) {
	t.Helper()
	open(t, s.w.Mem)
	for _, r := range listed(t, was) {
		if isMarked(was, r) && !isMarked(s.w.Mem, r) {
			t.Fatal("the mark is gone:", r)
		}
	}
}

// durable: behind a crash that leaves these bytes, is there an order of all answers up
// to it, for what lives?
func (s state) durable(t *testing.T, streams [][]byte) {
	t.Helper()
	l := live(t, streams)
	for u, x := range s.seen {
		if in := slices.Contains(l, uint64(u)<<31); !x.mayBe(in) {
			t.Fatal("behind a crash", u, "is in:", in, "known is", x)
		}
	}
	for _, k := range l {
		if _, known := s.seen[int(k>>31)]; !known {
			t.Fatal("behind a crash there is", k)
		}
	}
}

// crashes: so it is whatever a crash keeps. (Each stream keeps its frames as they are
// synced, and of the others any first ones: half a frame is none.)
func (s state) crashes(t *testing.T) {
	t.Helper()
	kept := [][][]byte{nil}
	for _, x := range s.w.Disk.Rows[0] {
		var more [][][]byte
		for end := x.Synced; end <= len(x.Data); {
			for _, l := range kept {
				more = append(more, append(slices.Clip(l), x.Data[:end]))
			}
			next, n := frame.Split(x.Data[end:])
			if n == 0 {
				break
			}
			end += 6 + len(next[0])
		}
		kept = more
	}
	for _, l := range kept {
		s.durable(t, l)
	}
}

// ends: when all is over, is of the list what answers say, and of the disk, and each
// record in one place, and no edge left of what was removed?
func (s state) ends(t *testing.T) {
	t.Helper()
	whole(t, s.w.Mem)
	keys := open(t, s.w.Mem)
	for u, x := range s.seen {
		_, in := slices.BinarySearch(keys, uint64(u)<<31)
		if !x.mayBe(in) {
			t.Fatal(u, "is in the list:", in, "known is", x)
		}
	}
	if s.w.Mem.Word[7] != 0 {
		return
	}
	for i := range s.w.Mem.T {
		if s.w.Mem.Word[8+i] != 0 {
			t.Fatal("it is in still:", i)
		}
	}
	for _, k := range keys {
		u, v := key.Split(k)
		_, first := slices.BinarySearch(keys, uint64(u)<<31)
		if _, second := slices.BinarySearch(keys, uint64(v)<<31); v >= 0 && !(first && second) {
			t.Fatal("an edge is left:", u, v, "of", keys)
		}
	}
	if l := live(t, data(s.w.Disk)); !slices.Equal(l, keys) {
		t.Fatal("durable is", l, "the list", keys)
	}
}

// name tells a state apart from others that began like it.
func (s state) name() string {
	b := make([]byte, 0, 1<<10)
	number := func(n uint64) { b = strconv.AppendUint(append(b, ' '), n, 36) }
	for _, n := range s.w.Mem.Word {
		number(n)
	}
	for _, x := range s.w.Disk.Rows[0] {
		number(uint64(x.Synced))
		b = append(append(b, '/'), x.Data...)
	}
	for _, u := range slices.Sorted(maps.Keys(s.seen)) {
		number(uint64(u))
		for _, y := range s.seen[u].ways {
			number(uint64(y))
		}
	}
	for _, x := range s.all {
		number(uint64(len(x.todo)))
		for _, r := range x.log {
			number(r.N)
			b = strconv.AppendBool(b, r.Fail)
		}
	}
	return string(b)
}

// everyWay plays threads to their ends, whoever steps when, whatever fails, if it may,
// and whenever it crashes, from each state that isn't among those that were seen.
func everyWay(t *testing.T, s state, fails bool, seen map[string]bool) {
	t.Helper()
	name := s.name()
	if seen[name] {
		return
	}
	seen[name] = true
	over := true
	for me := range s.all {
		after, kind, steps := s.step(t, me, false)
		if !steps {
			continue
		}
		over = false
		if access.Disk(kind) || len(after.all[me].log) == 0 {
			after.crashes(t)
		}
		everyWay(t, after, fails, seen)
		if fails && access.Disk(kind) {
			after, _, _ = s.step(t, me, true)
			everyWay(t, after, fails, seen)
		}
	}
	if over {
		s.ends(t)
	}
}

// TestEveryWay: whoever steps when, whatever fails, and whenever it crashes, answers
// have an order, and are durable (P16.1 to P16.5).
func TestEveryWay(t *testing.T) {
	for _, x := range []struct {
		c        int
		vertices []int
		edges    [][2]int
		fails    bool
		todo     [][]api.Op
	}{
		{2, nil, nil, true, [][]api.Op{{addOf(3)}, {addOf(3)}}},
		{1, nil, nil, false, [][]api.Op{{addOf(3)}, {addOf(3)}}},
		{2, nil, nil, true, [][]api.Op{{addOf(3)}, {addOf(5)}}},
		{1, nil, nil, false, [][]api.Op{{addOf(3)}, {addOf(5)}}},
		{1, nil, nil, true, [][]api.Op{{addOf(3)}, {hasOf(3), hasOf(3)}}},
		{1, nil, nil, true, [][]api.Op{{addOf(3), removeOf(3)}, {hasOf(3)}}},
		{1, []int{3}, nil, true, [][]api.Op{{removeOf(3)}, {removeOf(3)}}},
		{1, []int{3}, nil, true, [][]api.Op{{removeOf(3)}, {hasOf(3), hasOf(3)}}},
		{1, []int{3}, nil, true, [][]api.Op{{removeOf(3)}, {addOf(3)}}},
		{2, []int{3}, nil, true, [][]api.Op{{removeOf(3)}, {addOf(3)}}},
		{2, []int{3, 4}, nil, true, [][]api.Op{{removeOf(3)}, {removeOf(4)}}},
		{1, []int{3}, nil, false, [][]api.Op{{removeOf(3), addOf(4)}, {hasOf(4)}}},
		{2, []int{3}, [][2]int{{3, 3}}, false, [][]api.Op{{removeOf(3)}, {removeOf(3)}}},
		{3, []int{3, 4}, [][2]int{{4, 3}}, true, [][]api.Op{{removeOf(3)}, {hasOf(4)}}},
		{2, []int{3}, [][2]int{{3, 3}}, false, [][]api.Op{{removeOf(3)}, {addOf(3)}}},
		{2, []int{3}, nil, false, [][]api.Op{{removeOf(3), addOf(3)}, {removeOf(3)}}},
		{1, []int{3}, nil, false, [][]api.Op{{removeOf(3)}, {hasOf(3)}, {hasOf(3)}}},
		{1, nil, nil, false, [][]api.Op{{addOf(3)}, {removeOf(3)}, {hasOf(3)}}},
		{1, []int{3}, nil, false, [][]api.Op{{removeOf(3)}, {removeOf(3)}, {hasOf(3)}}},
	} {
		s := begun(t, len(x.todo), x.c, x.vertices, x.edges...)
		for me, l := range x.todo {
			s.all[me].todo = l
		}
		everyWay(t, s, x.fails, map[string]bool{})
	}
}

// left: how much is there still to do?
func (s state) left() int {
	n := 0
	for _, x := range s.all {
		n += len(x.todo)
	}
	return n
}

// crashesAnyhow: is what was answered durable, behind a crash that keeps of each stream
// any bytes of what isn't synced?
func (s state) crashesAnyhow(t *testing.T, random func(n int) int) {
	t.Helper()
	var more []int
	for range s.w.Mem.T {
		more = append(more, random(90)-5)
	}
	s.durable(t, data(disk.Crash(s.w.Disk, more)))
}

// script is a state in which threads have to do what comes by chance, on so many
// vertices; some of these are in, and edges of them.
func script(t *testing.T, random func(n int) int, n, c, vertices, ops int) state {
	t.Helper()
	var in []int
	var edges [][2]int
	for u := range min(vertices, c) / 2 {
		in = append(in, u)
		if random(2) == 0 {
			edges = append(edges, [2]int{u, random(u + 1)})
		}
	}
	s := begun(t, n, c, in, edges...)
	for me := range s.all {
		for range ops {
			op := api.Op{Kind: mine[random(3)], U: random(vertices)}
			s.all[me].todo = append(s.all[me].todo, op)
		}
	}
	return s
}

// asked: does each vertex answer in the end, as it was left?
func (s state) asked(t *testing.T) {
	t.Helper()
	for u := range s.seen {
		s.all = slices.Clone(s.all)
		s.all[0].todo = []api.Op{hasOf(u)}
		for steps := true; steps; {
			s, _, steps = s.step(t, 0, false)
		}
	}
	s.ends(t)
}

// TestScripts: so it is for more threads, records and operations, that come in each
// other's way (P16.1 to P16.5).
func TestScripts(t *testing.T) {
	for seed := range uint64(240) {
		random := lcg(seed)
		n := []int{2, 2, 3, 5, 8, 64}[seed%6]
		c := []int{1, 2, 4, 5, 10, 40}[seed%6] + random(3)
		ops := 8
		if n == 64 {
			ops = 2
		}
		s := script(t, random, n, c, 2+n/3, ops)
		longest, fails := 1+random(30), seed%5 == 0
		for s.left() > 0 {
			me := random(n)
			for range 1 + random(longest) {
				s, _, _ = s.step(t, me, fails && random(50*n) == 0)
			}
			if random(n) == 0 {
				s.crashesAnyhow(t, random)
			}
		}
		s.ends(t)
		s.crashesAnyhow(t, random)
		s.asked(t)
	}
}

// shared makes accesses of words that threads share, and of a thread's own stream; but
// not of one that comes to no end.
func shared(words []uint64, stream *[]byte) api.Do {
	left := 1 << 26
	return func(a api.Access) api.Result {
		if left--; left < 0 {
			panic("no end")
		}
		if access.Disk(a.Kind) {
			*stream = append(*stream, a.Data...)
			return api.Result{}
		}
		p := &words[a.Cell]
		switch {
		case a.Kind == api.AStore:
			atomic.StoreUint64(p, a.A)
		case a.Kind == api.ALoad:
			return api.Result{N: atomic.LoadUint64(p)}
		case a.Kind == api.AAdd:
			return api.Result{N: atomic.AddUint64(p, a.A) - a.A}
		case a.Kind == api.ASwap:
			return api.Result{N: atomic.SwapUint64(p, a.A)}
		case a.Kind == api.ACas && atomic.CompareAndSwapUint64(p, a.A, a.B):
			return api.Result{N: 1}
		}
		return api.Result{}
	}
}

// asksFor is what a thread's operation answers, whose accesses are made.
func asksFor(do api.Do, n, c, me int, op api.Op) api.Out {
	var log []api.Result
	for {
		a, out, done := Next(n, c, me, op, log)
		if done {
			return out
		}
		log = append(log, do(a))
	}
}

// TestThreads: so it is for threads that run, whose records come back: of vertices that
// are one thread's alone each answer is plain, and of those that they share as many are
// added as are removed, or one more (P16.1 to P16.5).
func TestThreads(t *testing.T) {
	const many, records, rounds, own, common = 8, 120, 3000, 2, 4
	w := world(t, many, records)
	streams := make([][]byte, many)
	var count [common]atomic.Int64
	var full atomic.Int64
	var all sync.WaitGroup
	for me := range many {
		do := shared(w.Mem.Word, &streams[me])
		random := lcg(uint64(me))
		all.Go(func() {
			in := map[int]bool{}
			for range rounds {
				op := api.Op{Kind: mine[random(3)], U: random(common)}
				mineAlone := random(2) == 0
				if mineAlone {
					op.U = common + me*own + random(own)
				}
				out := asksFor(do, many, records, me, op)
				adds := op.Kind == api.OAddV
				switch {
				case out.Err == api.ErrFull && adds && !(mineAlone && in[op.U]):
					full.Add(1)
				case out.Err != api.OK || mineAlone && out.Is != (in[op.U] != adds):
					t.Error(op, "answers", out, "is in:", in[op.U])
				case mineAlone && op.Kind != api.OHasV:
					in[op.U] = adds
				case !mineAlone && out.Is && adds:
					count[op.U].Add(1)
				case !mineAlone && out.Is && op.Kind == api.ORemV:
					count[op.U].Add(-1)
				}
			}
			for u := range in {
				if out := asksFor(do, many, records, me, hasOf(u)); !sameOut(out, api.Out{Is: in[u]}) {
					t.Error(u, "answers", out, "is in:", in[u])
				}
			}
		})
	}
	all.Wait()
	keys := open(t, w.Mem)
	for u := range count {
		is := count[u].Load()
		if _, there := slices.BinarySearch(keys, uint64(u)<<31); is != 0 && is != 1 || there != (is == 1) {
			t.Error(u, "is added", is, "times more than removed, and there:", there)
		}
	}
	if l := live(t, streams); !slices.Equal(l, keys) {
		t.Error("durable is", l, "the list", keys)
	}
	whole(t, w.Mem)
	t.Log("full:", full.Load(), "of", w.Mem.Word[2])
}
