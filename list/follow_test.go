package list

import (
	"maps"
	"math"
	"slices"
	"strconv"
	"sync"
	"sync/atomic"
	"testing"

	"weald/access"
	"weald/api"
	"weald/entry"
	"weald/epoch"
	"weald/frame"
	"weald/play"
	"weald/pool"
	"weald/save"
)

// lcg tells numbers that look as if by chance, the same ones each time.
func lcg(seed uint64) func(n int) int {
	return func(n int) int {
		seed = seed*6364136223846793005 + 1442695040888963407
		return int(seed >> 33 % uint64(n))
	}
}

// chain are the records from a word on, by another word of each; none is told twice.
func chain(t *testing.T, first int, behind func(r int) int) []int {
	t.Helper()
	var l []int
	for r := first; r != 0; r = behind(r) {
		if slices.Contains(l, r) {
			t.Fatal("it goes round:", l, r)
		}
		l = append(l, r)
	}
	return l
}

// listed are the records of the list, marked or not.
func listed(t *testing.T, m api.Mem) []int {
	t.Helper()
	return chain(t, int(m.Word[0]>>1), func(r int) int { return int(m.Word[fieldAt(m.T, r, nextWord)] >> 1) })
}

// linked are the records from one on, by their links.
func linked(t *testing.T, m api.Mem, first int) []int {
	t.Helper()
	return chain(t, first, func(r int) int { return int(m.Word[fieldAt(m.T, r, linkWord)]) })
}

// retired are the records of all limbos.
func retired(t *testing.T, m api.Mem) []int {
	t.Helper()
	var l []int
	for i := range 3 {
		l = append(l, linked(t, m, int(m.Word[4+i]))...)
	}
	return l
}

// isMarked: is a record marked?
func isMarked(m api.Mem, r int) bool { return m.Word[fieldAt(m.T, r, nextWord)]%2 == 1 }

// keyIn is a record's key.
func keyIn(m api.Mem, r int) uint64 { return m.Word[fieldAt(m.T, r, keyWord)] }

// rises: do the records rise by their keys?
func rises(m api.Mem, l []int) bool {
	for i := range len(l) - 1 {
		if keyIn(m, l[i]) >= keyIn(m, l[i+1]) {
			return false
		}
	}
	return true
}

// deaths are the stamps of the deaths that are synced.
func deaths(t *testing.T, w api.World) []uint64 {
	t.Helper()
	var l []uint64
	for _, x := range w.Disk.Rows[0] {
		all, _ := frame.Split(x.Data[:x.Synced])
		for _, b := range all {
			e, code := entry.Decode(b)
			if code != api.OK || e.Kind != api.EDeath {
				t.Fatal("no death:", b)
			}
			l = append(l, e.Stamp)
		}
	}
	return l
}

// plain is a list as one would write it down: its records, and of each whether it is
// marked, and swept; and those that are held, and in no list.
type plain struct {
	w      api.World
	l      []int
	marked map[int]bool
	swept  map[uint64]bool
	held   []int
}

// takes takes what is marked out of the plain list, up to the first that isn't, and
// that it is to stop at: where that is.
func (p *plain) takes(stops func(r int) bool) (pred, curr int) {
	for i := 0; i < len(p.l); {
		r := p.l[i]
		if p.marked[r] {
			p.l = slices.Delete(p.l, i, i+1)
			delete(p.marked, r)
			continue
		}
		if stops(r) {
			return pred, r
		}
		pred, i = r, i+1
	}
	return pred, 0
}

// same: is the world's list as it is written down, is each record in one place, and
// what is out of the list dead?
func (p *plain) same(t *testing.T) {
	t.Helper()
	m := p.w.Mem
	l := listed(t, m)
	var open []int
	for _, r := range l {
		if isMarked(m, r) != p.marked[r] {
			t.Fatal("the mark of", r, "isn't", p.marked[r])
		}
		if !p.marked[r] {
			open = append(open, r)
		}
	}
	if !slices.Equal(l, p.l) || !rises(m, l) || !rises(m, open) {
		t.Fatal("the list is", l, "not", p.l)
	}
	gone := retired(t, m)
	all := slices.Concat(l, gone, linked(t, m, int(m.Word[1]%(1<<20))), p.held)
	slices.Sort(all)
	for i, r := range all {
		if r != i+1 || len(all) != m.C {
			t.Fatal("records are in none, or two places:", all)
		}
	}
	synced := deaths(t, p.w)
	for _, r := range gone {
		f := m.Word[fieldAt(m.T, r, flagWord)]
		if f&2 == 0 || !isMarked(m, r) || !p.swept[f>>2] && !slices.Contains(synced, f>>2) {
			t.Fatal("it is out, and not dead:", r, f, synced)
		}
	}
}

// search asks for a Search, as the plain list says.
func (p *plain) search(t *testing.T, k uint64) (pred, curr int, found bool) {
	t.Helper()
	pred, curr = p.takes(func(r int) bool { return keyIn(p.w.Mem, r) >= k })
	found = curr != 0 && keyIn(p.w.Mem, curr) == k
	p.w = asked(t, p.w, api.Op{Kind: api.OSearch, W: k}, api.Out{N: curr, W: uint64(pred), Is: found})
	return pred, curr, found
}

// alloc is a record that is free, or retired: it is held.
func (p *plain) alloc(t *testing.T) {
	t.Helper()
	prog := func(do api.Do) api.Out {
		epoch.Pin(do, 0)
		r := epoch.Alloc(do, p.w.Mem.T, 0)
		epoch.Unpin(do, 0)
		return api.Out{N: r}
	}
	var out api.Out
	p.w, out = played(t, p.w, prog)
	if out.N != 0 {
		p.held = append(p.held, out.N)
	}
}

// played plays a program of thread 0 on a world to its end.
func played(t *testing.T, w api.World, prog func(do api.Do) api.Out) (api.World, api.Out) {
	t.Helper()
	var log []api.Result
	for range 10000 {
		a, out, done := play.Run(prog, log)
		if done {
			return w, out
		}
		var r api.Result
		w, r = access.Do(w, 0, a, false)
		log = append(log, r)
	}
	t.Fatal("no end")
	return w, api.Out{}
}

// link makes the first record that is held, and links it where its key is sought, if
// that isn't there.
func (p *plain) link(t *testing.T, e api.Entry) {
	t.Helper()
	if len(p.held) == 0 {
		return
	}
	r := p.held[0]
	p.w, _ = played(t, p.w, func(do api.Do) api.Out {
		return api.Out{W: save.Make(do, p.w.Mem.T, r, e, 0)}
	})
	pred, curr, found := p.search(t, e.Key)
	if found {
		return
	}
	p.w = asked(t, p.w, api.Op{Kind: api.OLink, U: pred, V: curr, W: uint64(r)}, api.Out{Is: true})
	i := slices.Index(p.l, pred) + 1
	p.l, p.held = slices.Insert(p.l, i, r), p.held[1:]
}

// linkWrong asks for a Link of a record that is held behind one that isn't followed
// by what is told, or is marked: nothing is linked.
func (p *plain) linkWrong(t *testing.T, random func(n int) int) {
	t.Helper()
	if len(p.held) == 0 || len(p.l) == 0 {
		return
	}
	i, curr := random(len(p.l)), random(p.w.Mem.C+1)
	follows := 0
	if i+1 < len(p.l) {
		follows = p.l[i+1]
	}
	if p.marked[p.l[i]] || curr != follows {
		p.w = asked(t, p.w, api.Op{Kind: api.OLink, U: p.l[i], V: curr, W: uint64(p.held[0])}, api.Out{})
	}
}

// mark asks for a Mark of one of the list's records.
func (p *plain) mark(t *testing.T, i int) {
	t.Helper()
	if len(p.l) == 0 {
		return
	}
	r := p.l[i%len(p.l)]
	p.w = asked(t, p.w, api.Op{Kind: api.OMark, U: r}, api.Out{Is: !p.marked[r]})
	p.marked[r] = true
}

// sweep asks for a Sweep of a stamp: all that is marked, or an edge of that, is out.
func (p *plain) sweep(t *testing.T, stamp uint64) {
	t.Helper()
	m := p.w.Mem
	for _, r := range p.l {
		su, sv := m.Word[fieldAt(m.T, r, uWord)], m.Word[fieldAt(m.T, r, vWord)]
		if edge(keyIn(m, r)) && (su == stamp || sv == stamp) && !p.marked[r] {
			p.marked[r] = true
			p.swept[m.Word[fieldAt(m.T, r, flagWord)]>>2] = true
		}
	}
	p.takes(func(int) bool { return false })
	p.w = asked(t, p.w, api.Op{Kind: api.OSweep, W: stamp}, api.Out{})
}

// seek asks for a Seek from the beginning, or from one of the list's records.
func (p *plain) seek(t *testing.T, i int, k uint64) {
	t.Helper()
	l, op, out := p.l, api.Op{Kind: api.OSeek, W: k}, api.Out{}
	if i %= len(l) + 1; i > 0 {
		op.U, l = l[i-1], l[i:]
	}
	if at := slices.IndexFunc(l, func(r int) bool { return keyIn(p.w.Mem, r) >= k }); at >= 0 {
		out = api.Out{N: l[at], Is: keyIn(p.w.Mem, l[at]) == k}
	}
	was := p.w
	p.w = asked(t, p.w, op, out)
	if !slices.Equal(was.Mem.Word, p.w.Mem.Word) {
		t.Fatal("a Seek turned a word")
	}
}

// someKey is a vertex's key, or an edge's.
func someKey(random func(n int) int) uint64 { return uint64(random(3)<<31 + random(4)) }

// TestAlone: the records that aren't marked rise by their keys, and stay, but for the
// one that is linked; all that are marked, up to the place that is sought, are taken
// out, retired, and dead (P15.1 to P15.6).
func TestAlone(t *testing.T) {
	for seed := range uint64(30) {
		random := lcg(seed)
		p := plain{w: world(t, 1+random(3), 1+random(9)), marked: map[int]bool{}, swept: map[uint64]bool{}}
		for range 400 {
			switch random(8) {
			case 0, 1:
				p.alloc(t)
			case 2, 3:
				k := someKey(random)
				e := api.Entry{Key: k, W: uint64(seed)}
				if edge(k) {
					e.SU, e.SV = uint64(1+random(6)), uint64(1+random(6))
				}
				p.link(t, e)
			case 4:
				p.mark(t, random(9))
			case 5:
				p.search(t, someKey(random))
			case 6:
				p.seek(t, random(9), someKey(random))
				p.linkWrong(t, random)
			case 7:
				if random(3) == 0 {
					p.sweep(t, uint64(random(8)))
				}
			}
			p.same(t)
		}
	}
}

// TestAloneLong: so it is of a list of very many, all of them marked or every third
// one, of which one Search takes out those up to its place (P15.6).
func TestAloneLong(t *testing.T) {
	const records = 120
	for _, every := range []int{1, 3} {
		p := plain{w: world(t, 2, records), marked: map[int]bool{}, swept: map[uint64]bool{}}
		for k := range records {
			p.alloc(t)
			p.link(t, api.Entry{Key: uint64(k*37%records) << 31})
		}
		for i := 0; i < records; i += every {
			p.mark(t, i)
		}
		p.same(t)
		p.search(t, records/2<<31)
		p.same(t)
		if n := len(retired(t, p.w.Mem)); n != []int{0, records, 0, records/6 + 1}[every] {
			t.Error(n, "are taken out")
		}
		p.search(t, math.MaxUint64)
		p.same(t)
		if n := len(p.l); n != records-(records+every-1)/every {
			t.Error(n, "are left")
		}
	}
}

// job is what a thread does: a program, of a key; how many more there are of that, if
// it answers yes; and whether it asks for the key.
type job struct {
	key  uint64
	more int
	asks bool
	prog func(do api.Do) api.Out
}

// told is what a program answers that found something, or not, if the disk didn't
// fail.
func told(found, ok bool) api.Out {
	if !ok {
		return api.Out{Err: api.ErrIO}
	}
	return api.Out{Is: found}
}

// add is a job that links a record, of its key, if there is none of that.
func add(n, r int, k uint64) job {
	return job{key: k, more: 1, prog: func(do api.Do) api.Out {
		for {
			pred, curr, found, ok := Search(do, n, k)
			if !ok || found || Link(do, n, pred, curr, r) {
				return told(!found, ok)
			}
		}
	}}
}

// remove is one that marks the record of a key.
func remove(n int, k uint64) job {
	return job{key: k, more: -1, prog: func(do api.Do) api.Out {
		for {
			_, curr, found, ok := Search(do, n, k)
			if !ok || !found || Mark(do, n, curr) {
				return told(found, ok)
			}
		}
	}}
}

// search and seek are jobs that ask for a key; sweep is one that sweeps a stamp.
func search(n int, k uint64) job {
	return job{key: k, asks: true, prog: func(do api.Do) api.Out {
		_, _, found, ok := Search(do, n, k)
		return told(found, ok)
	}}
}

func seek(n int, k uint64) job {
	return job{key: k, asks: true, prog: func(do api.Do) api.Out {
		_, found := Seek(do, n, 0, k)
		return told(found, true)
	}}
}

func sweep(n int, stamp uint64) job {
	return job{prog: func(do api.Do) api.Out { return told(false, Sweep(do, n, stamp)) }}
}

// thread is what one has to do, and what the first of it was told up to now.
type thread struct {
	todo []job
	log  []api.Result
}

// state is a world, its threads, how many there are of each key, as answers say (what
// is swept aside), which records were linked, which keys stay, and are never there,
// and the stamp that is swept (0: none).
type state struct {
	w     api.World
	all   []thread
	count map[uint64]int
	in    map[int]bool
	stays []uint64
	never []uint64
	swept uint64
}

// begun is a state of c records, of which the first have keys, and are in the list;
// edges are of the ends' stamps 90 and 91, if their keys are odd, and else 91 and 92.
func begun(t *testing.T, n, c int, keys, free []uint64) state {
	t.Helper()
	s := state{w: world(t, n, c), count: map[uint64]int{}, in: map[int]bool{}}
	for i, k := range slices.Concat(keys, free) {
		e := api.Entry{Key: k}
		if edge(k) {
			e.SU, e.SV = 91-k%2, 92-k%2
		}
		s.w, _ = played(t, s.w, func(do api.Do) api.Out { return api.Out{W: save.Make(do, n, i+1, e, 0)} })
		if i < len(keys) {
			var out api.Out
			s.w, out = played(t, s.w, add(n, i+1, k).prog)
			if !out.Is {
				t.Fatal("the key is there:", k)
			}
			s.in[i+1] = true
			s.count[k]++
		}
	}
	return s
}

// under is what a thread asks, or answers.
func (s state) under(me int) (api.Access, api.Out, bool) {
	return play.Run(s.all[me].todo[0].prog, s.all[me].log)
}

// step is the state behind one access of a thread, that may fail; what that is of;
// and whether the thread had anything to do.
func (s state) step(t *testing.T, me int, fail bool) (state, int, bool) {
	t.Helper()
	if len(s.all[me].todo) == 0 {
		return s, 0, false
	}
	a, _, done := s.under(me)
	if done {
		t.Fatal("it is over:", me)
	}
	s.all, s.in = slices.Clone(s.all), maps.Clone(s.in)
	var r api.Result
	was := s.w
	s.w, r = access.Do(s.w, me, a, fail)
	x := &s.all[me]
	x.log = append(slices.Clip(x.log), r)
	if _, out, over := s.under(me); over {
		s.end(t, x, out)
	}
	s.holds(t, was)
	return s, a.Kind, true
}

// end ends a thread's job: if it asks for a key that stays, or one that is never
// there, it answers so.
func (s *state) end(t *testing.T, x *thread, out api.Out) {
	t.Helper()
	j := x.todo[0]
	failed := slices.ContainsFunc(x.log, func(r api.Result) bool { return r.Fail })
	if failed != (out.Err == api.ErrIO) {
		t.Fatal(j.key, "answers", out, "told", x.log)
	}
	if out.Is {
		s.count = maps.Clone(s.count)
		s.count[j.key] += j.more
	}
	if stays := slices.Contains(s.stays, j.key); j.asks && !failed && (stays || slices.Contains(s.never, j.key)) && out.Is != stays {
		t.Fatal(j.key, "answers", out)
	}
	x.todo, x.log = x.todo[1:], nil
}

// holds: do the list's records rise, and stay till they are marked; is what is out of
// it dead, and what is retired out?
func (s *state) holds(t *testing.T, was api.World) {
	t.Helper()
	m := s.w.Mem
	l := listed(t, m)
	if !rises(m, l) {
		t.Fatal("the list doesn't rise:", l)
	}
	for _, r := range l {
		s.in[r] = true
	}
	synced := deaths(t, s.w)
	for r := range s.in {
		f := m.Word[fieldAt(m.T, r, flagWord)]
		bySweep := s.swept != 0 && edge(keyIn(m, r))
		switch {
		case isMarked(was.Mem, r) && !isMarked(m, r):
			t.Fatal("the mark is gone:", r)
		case slices.Contains(l, r):
			continue
		case !isMarked(m, r):
			t.Fatal("it is out, and not marked:", r, l)
		case f&2 == 0 || !bySweep && !slices.Contains(synced, f>>2):
			t.Fatal("it is out, and not dead:", r, f, synced)
		}
	}
	for _, r := range retired(t, m) {
		if !s.in[r] || slices.Contains(l, r) {
			t.Fatal("it is retired, and not out:", r, l)
		}
	}
}

// ends: when all is over, is of each key in the list what the answers say, and all
// that is out retired? Then one Search more takes out what is marked.
func (s state) ends(t *testing.T) {
	t.Helper()
	n := s.w.Mem.T
	w, out := played(t, s.w, search(n, math.MaxUint64).prog)
	if out.Err != api.OK {
		t.Fatal(out)
	}
	l := listed(t, w.Mem)
	there := map[uint64]int{}
	for _, r := range l {
		if isMarked(w.Mem, r) {
			t.Fatal("it is marked still:", r)
		}
		there[keyIn(w.Mem, r)]++
	}
	for k, many := range s.count {
		if many != there[k] && (s.swept == 0 || !edge(k) || many < there[k]) {
			t.Fatal("of", k, "there are", there[k], "not", many, s.all)
		}
	}
	if gone := retired(t, w.Mem); len(gone)+len(l) != len(s.in) {
		t.Fatal("retired, and in the list:", gone, l, "of", s.in)
	}
}

// name tells a state apart from others that began like it.
func (s state) name() string {
	var b []byte
	number := func(n uint64) { b = strconv.AppendUint(append(b, ' '), n, 36) }
	for _, n := range s.w.Mem.Word {
		number(n)
	}
	for _, x := range s.w.Disk.Rows[0] {
		number(uint64(x.Synced))
		b = append(append(b, '/'), x.Data...)
	}
	for _, k := range slices.Sorted(maps.Keys(s.count)) {
		number(k)
		b = strconv.AppendInt(b, int64(s.count[k]), 10)
	}
	for _, x := range s.all {
		number(uint64(len(x.todo)))
		for _, r := range x.log {
			number(r.N)
			b = strconv.AppendBool(b, r.Fail)
		}
	}
	return string(b)
}

// everyWay plays threads to their ends, whoever steps when, and whatever fails, if it
// may, from each state that isn't among those that were seen.
func everyWay(t *testing.T, s state, fails bool, seen map[string]bool) {
	t.Helper()
	name := s.name()
	if seen[name] {
		return
	}
	seen[name] = true
	over := true
	for me := range s.all {
		after, kind, steps := s.step(t, me, false)
		if !steps {
			continue
		}
		over = false
		everyWay(t, after, fails, seen)
		if fails && access.Disk(kind) {
			after, _, _ = s.step(t, me, true)
			everyWay(t, after, fails, seen)
		}
	}
	if over {
		s.ends(t)
	}
}

// v and e are a vertex's key, and an edge's.
func v(u int) uint64 { return uint64(u) << 31 }

func e(u, w int) uint64 { return uint64(u)<<31 + uint64(w) + 1 }

// TestEveryWay: whoever steps when, and whatever fails, the list's records rise, stay
// till they are marked, are dead ahead of being out, and retired once; and what is
// answered is so (P15.1 to P15.4).
func TestEveryWay(t *testing.T) {
	for _, x := range []struct {
		keys, free []uint64
		stays      []uint64
		never      []uint64
		swept      uint64
		fails      bool
		todo       [][]job
	}{
		{nil, []uint64{v(3), v(5)}, nil, nil, 0, false, [][]job{{add(2, 1, v(3))}, {add(2, 2, v(5))}}},
		{nil, []uint64{v(3), v(3)}, nil, nil, 0, false, [][]job{{add(2, 1, v(3))}, {add(2, 2, v(3))}}},
		{[]uint64{v(3)}, []uint64{v(4)}, nil, nil, 0, true, [][]job{{remove(2, v(3))}, {add(2, 2, v(4))}}},
		{[]uint64{v(3)}, []uint64{v(3)}, nil, nil, 0, true, [][]job{{remove(2, v(3))}, {add(2, 2, v(3))}}},
		{[]uint64{v(3), v(4)}, nil, nil, nil, 0, true, [][]job{{remove(2, v(3))}, {remove(2, v(4))}}},
		{[]uint64{v(3), v(4)}, nil, []uint64{v(4)}, nil, 0, true, [][]job{{remove(2, v(3)), search(2, v(9))}, {seek(2, v(4)), search(2, v(4))}}},
		{[]uint64{v(3), v(4)}, nil, nil, []uint64{v(2)}, 0, true, [][]job{{remove(2, v(3)), remove(2, v(4))}, {seek(2, v(2)), search(2, v(2))}}},
		{[]uint64{v(3)}, nil, nil, nil, 0, true, [][]job{{remove(2, v(3))}, {remove(2, v(3))}}},
		{[]uint64{v(1), e(1, 1)}, nil, []uint64{v(1)}, nil, 91, true, [][]job{{sweep(2, 91)}, {sweep(2, 91), seek(2, v(1))}}},
		{[]uint64{e(1, 1), e(1, 2)}, nil, []uint64{e(1, 2)}, nil, 92, true, [][]job{{sweep(2, 92)}, {remove(2, e(1, 1)), search(2, e(1, 2))}}},
		{[]uint64{v(3)}, []uint64{v(2), v(3)}, nil, nil, 0, false, [][]job{{remove(3, v(3))}, {add(3, 2, v(2))}, {add(3, 3, v(3))}}},
		{[]uint64{v(3), v(4)}, []uint64{v(5)}, nil, nil, 0, false, [][]job{{remove(3, v(3))}, {remove(3, v(4))}, {add(3, 3, v(5))}}},
		{[]uint64{v(2), v(3), v(4)}, nil, []uint64{v(4)}, nil, 0, false, [][]job{{remove(3, v(2))}, {remove(3, v(3))}, {search(3, v(4))}}},
		{[]uint64{v(2), v(3)}, []uint64{v(2), v(3)}, nil, nil, 0, true, [][]job{{remove(2, v(2)), add(2, 3, v(2))}, {remove(2, v(3)), add(2, 4, v(3))}}},
		{[]uint64{v(3)}, []uint64{v(3), v(3)}, nil, nil, 0, true, [][]job{{remove(2, v(3)), add(2, 2, v(3))}, {add(2, 3, v(3)), remove(2, v(3))}}},
		{[]uint64{e(1, 1)}, []uint64{e(1, 0), e(1, 2)}, nil, nil, 91, false, [][]job{{sweep(2, 91)}, {add(2, 2, e(1, 0)), add(2, 3, e(1, 2))}}},
	} {
		s := begun(t, len(x.todo), len(x.keys)+len(x.free), x.keys, x.free)
		for _, l := range x.todo {
			s.all = append(s.all, thread{todo: l})
		}
		s.stays, s.never, s.swept = x.stays, x.never, x.swept
		everyWay(t, s, x.fails, map[string]bool{})
	}
}

// TestScripts: so it is for more threads and records, and for longer rows of jobs
// (P15.1 to P15.4).
func TestScripts(t *testing.T) {
	for seed := range uint64(24) {
		random := lcg(seed)
		n := []int{2, 3, 5, 64}[seed%4]
		first := []uint64{v(0), v(1), e(1, 0), e(1, 1), v(2), v(4), e(4, 2)}
		const adds = 2
		var free []uint64
		for range adds * n {
			free = append(free, []uint64{v(1), e(1, 0), e(1, 1), e(1, 2), v(2), v(3)}[random(6)])
		}
		s := begun(t, n, len(first)+len(free), first, free)
		s.stays, s.never = []uint64{v(0), v(4)}, []uint64{v(5), e(2, 2)}
		if seed%3 == 0 {
			s.swept = 91
		}
		for me := range n {
			var l []job
			for i := range adds {
				r := len(first) + me*adds + i + 1
				l = append(l, add(n, r, free[r-len(first)-1]), remove(n, free[random(len(free))]))
			}
			l = append(l, remove(n, e(1, 0)), search(n, v(random(6))), seek(n, v(random(6))), sweep(n, s.swept))
			for i := range l {
				j := i + random(len(l)-i)
				l[i], l[j] = l[j], l[i]
			}
			s.all = append(s.all, thread{todo: l})
		}
		for left := 4 * n; left > 0; {
			me := random(n)
			for range 1 + random(12) {
				s, _, _ = s.step(t, me, random(40) == 0)
			}
			left = 0
			for _, x := range s.all {
				left += len(x.todo)
			}
		}
		s.ends(t)
	}
}

// shared makes accesses of words that threads share, and of a thread's own stream;
// but not of one that comes to no end.
func shared(words []uint64, appended *atomic.Int64) api.Do {
	left := 1 << 26
	return func(a api.Access) api.Result {
		if left--; left < 0 {
			panic("no end")
		}
		if access.Disk(a.Kind) {
			appended.Add(int64(len(a.Data)))
			return api.Result{}
		}
		p := &words[a.Cell]
		switch {
		case a.Kind == api.AStore:
			atomic.StoreUint64(p, a.A)
		case a.Kind == api.ALoad:
			return api.Result{N: atomic.LoadUint64(p)}
		case a.Kind == api.AAdd:
			return api.Result{N: atomic.AddUint64(p, a.A) - a.A}
		case a.Kind == api.ASwap:
			return api.Result{N: atomic.SwapUint64(p, a.A)}
		case a.Kind == api.ACas && atomic.CompareAndSwapUint64(p, a.A, a.B):
			return api.Result{N: 1}
		}
		return api.Result{}
	}
}

// fresh is a job that links a record that is allocated, or was retired.
func fresh(do api.Do, n, me int, k uint64) (api.Out, bool) {
	r := epoch.Alloc(do, n, me)
	if r == 0 {
		return api.Out{Err: api.ErrFull}, true
	}
	entry := api.Entry{Key: k}
	if edge(k) {
		entry.SU, entry.SV = 1, 2
	}
	save.Make(do, n, r, entry, 0)
	out := add(n, r, k).prog(do)
	if !out.Is {
		pool.Push(do, n, r)
	}
	return out, true
}

// TestThreads: so it is for threads that run, whose records come back (P15.1 to
// P15.4).
func TestThreads(t *testing.T) {
	const many, records, rounds, places = 8, 40, 30000, 6
	w := world(t, many, records)
	var count [places]atomic.Int64
	var appended, added atomic.Int64
	var all sync.WaitGroup
	for me := range many {
		do := shared(w.Mem.Word, &appended)
		random := lcg(uint64(me))
		all.Go(func() {
			for range rounds {
				u := random(places)
				out := save.In(do, me, func() (api.Out, bool) {
					switch random(8) {
					case 0, 1, 2:
						return fresh(do, many, me, v(u))
					case 3, 4:
						out := remove(many, v(u)).prog(do)
						return api.Out{Is: out.Is, N: 1}, true
					case 5:
						fresh(do, many, me, e(u, random(3)))
					case 6:
						Sweep(do, many, 1)
					case 7:
						Seek(do, many, 0, v(u))
					}
					return api.Out{}, true
				})
				if out.Is {
					count[u].Add(int64(1 - 2*out.N))
					added.Add(int64(1 - out.N))
				}
			}
		})
	}
	all.Wait()
	do := shared(w.Mem.Word, &appended)
	if !Sweep(do, many, 1) {
		t.Fatal("a death isn't saved")
	}
	l := listed(t, w.Mem)
	there := map[uint64]int64{}
	for _, r := range l {
		there[keyIn(w.Mem, r)]++
	}
	sum := int64(0)
	for u := range count {
		if is := count[u].Load(); is != there[v(u)] {
			t.Error("of", u, "there are", there[v(u)], "not", is)
		}
		sum += there[v(u)]
	}
	if sum != int64(len(l)) || !rises(w.Mem, l) || added.Load() == 0 || appended.Load() == 0 {
		t.Error("the list is", l, "behind", added.Load(), "that were added")
	}
	free := linked(t, w.Mem, int(w.Mem.Word[1]%(1<<20)))
	if back := slices.Concat(l, retired(t, w.Mem), free); len(back) != records {
		t.Error("records are left:", len(back), "of", records)
	}
}
