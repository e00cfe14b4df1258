package play

import (
	"bytes"
	"math"
	"reflect"
	"slices"
	"testing"

	"weald/access"
	"weald/api"
	"weald/cell"
	"weald/disk"
)

// program is what Run takes.
type program = func(do api.Do) api.Out

// numbers are a word's: small ones, and those at the bounds of words.
var numbers = []uint64{
	0, 1, 2, 3, 5, 255, 256, 257, math.MaxUint32, math.MaxUint32 + 1, math.MaxUint32 + 2, math.MaxInt64,
	math.MaxInt64 + 1, math.MaxInt64 + 2, 0x0123456789abcdef, math.MaxUint64 - 1, math.MaxUint64,
}

// places are those of words, and such as no memory has.
var places = []int{math.MinInt, math.MinInt32, -1, 0, 1, 2, 7, 8, 1000, 524359, 1 << 32, math.MaxInt}

// mixedLog is a log of n results, no two of them the same.
func mixedLog(n int, seed uint64) []api.Result {
	l := make([]api.Result, n)
	for i := range l {
		seed = seed*6364136223846793005 + 1442695040888963407
		l[i] = api.Result{N: seed >> (seed >> 58), Fail: seed>>33&1 == 1}
		if k := int(seed >> 40 % 5); k > 0 {
			l[i].B = bytes.Repeat([]byte{byte(seed >> 32)}, k)
		}
	}
	return l
}

// copied is the same log, in memory of its own.
func copied(log []api.Result) []api.Result {
	l := slices.Clone(log)
	for i := range l {
		l[i].B = bytes.Clone(l[i].B)
	}
	return l
}

// sameAccess: are two accesses the same? (Two lists are, if their elements are.)
func sameAccess(a, b api.Access) bool {
	return a.Kind == b.Kind && a.Cell == b.Cell && a.A == b.A && a.B == b.B && bytes.Equal(a.Data, b.Data) && slices.Equal(a.Word, b.Word)
}

// sameOut: are two answers the same?
func sameOut(a, b api.Out) bool {
	return a.Err == b.Err && a.Is == b.Is && a.N == b.N && a.W == b.W && slices.Equal(a.List, b.List)
}

// asks: does a program that is told a log ask just this?
func asks(t *testing.T, what string, prog program, log []api.Result, want api.Access) {
	t.Helper()
	a, out, done := Run(prog, log)
	if !sameAccess(a, want) || !sameOut(out, api.Out{}) || done {
		t.Errorf("%s, told %d: %v, %v, %v, not the access %v alone", what, len(log), a, out, done, want)
	}
}

// answers: does a program that is told a log answer just this?
func answers(t *testing.T, what string, prog program, log []api.Result, want api.Out) {
	t.Helper()
	a, out, done := Run(prog, log)
	if !sameAccess(a, api.Access{}) || !sameOut(out, want) || !done {
		t.Errorf("%s, told %d: %v, %v, %v, not the answer %v alone", what, len(log), a, out, done, want)
	}
}

// straight is what a program makes of a log without Run: its accesses, and its
// answer. It must make as many accesses as the log has, at most.
func straight(prog program, log []api.Result) ([]api.Access, api.Out) {
	var made []api.Access
	out := prog(func(a api.Access) api.Result {
		made = append(made, a)
		return log[len(made)-1]
	})
	return made, out
}

// played looks at a program that is told each beginning of a log, and more of it
// than it asks for.
func played(t *testing.T, what string, prog program, log []api.Result) {
	t.Helper()
	made, out := straight(prog, log)
	for k, a := range made {
		asks(t, what, prog, log[:k], a)
	}
	for k := len(made); k <= len(log); k++ {
		answers(t, what, prog, log[:k], out)
	}
}

// climb is a program whose accesses and number of them hang on what it was told:
// the next cell is what was told, and a number that is told odd is turned.
func climb(do api.Do) api.Out {
	var out api.Out
	place := 3
	for range 9 {
		n := Load(do, place)
		out.List = append(out.List, place)
		if n%4 == 0 {
			break
		}
		if n%2 == 1 && Cas(do, place, n, n+1) {
			out.Is = true
			out.W += Add(do, place+1, n)
		}
		place = int(n % 32)
	}
	out.N = len(out.List)
	return out
}

// disky is a program that makes accesses of a disk, and goes by failures and
// bytes.
func disky(do api.Do) api.Out {
	r := do(api.Access{Kind: api.AAppend, Data: []byte("ab")})
	if r.Fail {
		return api.Out{Err: api.ErrIO}
	}
	var read []byte
	for i := range 3 {
		r = do(api.Access{Kind: api.ARead, Cell: i})
		if r.Fail {
			return api.Out{Err: api.ErrIO, N: i}
		}
		read = append(read, r.B...)
	}
	if do(api.Access{Kind: api.AWrite, Data: read}).Fail {
		return api.Out{Err: api.ErrIO, N: 3}
	}
	do(api.Access{Kind: api.AInstall, Word: []uint64{1, uint64(len(read))}})
	return api.Out{Is: true, N: len(read)}
}

// loads is a program that loads n words, and tells their sum.
func loads(n int) program {
	return func(do api.Do) api.Out {
		var out api.Out
		for i := range n {
			out.W += Load(do, i)
		}
		return out
	}
}

// TestExample: that of the chapter (P11.2).
func TestExample(t *testing.T) {
	l := []api.Access{{Kind: api.ALoad, Cell: 4}, {Kind: api.ALoad, Cell: 5}}
	a, out, done := Line(l, nil)
	if !sameAccess(a, l[0]) || !sameOut(out, api.Out{}) || done {
		t.Error(a, out, done)
	}
}

// TestRun: a program is told the log, asks the next access, or answers, whatever
// of the log is left (P11.1).
func TestRun(t *testing.T) {
	for seed := range uint64(300) {
		log := mixedLog(40, seed)
		for n := range 6 {
			played(t, "loads", loads(n), log)
		}
		played(t, "by what is told", climb, log)
		played(t, "of a disk", disky, log)
	}
}

// TestRunNone: a program without accesses answers, whatever the log (P11.1).
func TestRunNone(t *testing.T) {
	want := api.Out{Err: api.ErrFull, Is: true, N: -3, W: math.MaxUint64, List: []int{4, -1, 4}}
	for _, out := range []api.Out{{}, want, {List: []int{}}, {N: math.MinInt}, {Err: -1}} {
		for _, log := range [][]api.Result{nil, {}, {{N: 1}}, mixedLog(5, 1)} {
			answers(t, "none", func(api.Do) api.Out { return out }, log, out)
		}
	}
}

// TestRunEndless: a program that would never answer is left at the end of each
// log (P11.1).
func TestRunEndless(t *testing.T) {
	endless := func(do api.Do) api.Out {
		for i := 0; ; i++ {
			Store(do, i, Load(do, -i))
		}
	}
	log := mixedLog(200, 7)
	for k := range log {
		want := api.Access{Kind: api.ALoad, Cell: -k / 2}
		if k%2 == 1 {
			want = api.Access{Kind: api.AStore, Cell: k / 2, A: log[k-1].N}
		}
		asks(t, "endless", endless, log[:k], want)
	}
}

// TestRunLong: a long log is told to its end (P11.1).
func TestRunLong(t *testing.T) {
	const many = 300000
	log := mixedLog(many, 3)
	var sum uint64
	for _, r := range log {
		sum += r.N
	}
	answers(t, "long", loads(many), log, api.Out{W: sum})
	asks(t, "long", loads(many), log[:many-1], api.Access{Kind: api.ALoad, Cell: many - 1})
	asks(t, "long", loads(many+1), log, api.Access{Kind: api.ALoad, Cell: many})
}

// TestRunWhole: an access is handed on whole, whether it is one of chapter 10 or
// not, and so is what is told (P11.1).
func TestRunWhole(t *testing.T) {
	for kind := -2; kind <= 16; kind++ {
		for _, place := range places {
			for _, n := range numbers {
				a := api.Access{Kind: kind, Cell: place, A: n, B: ^n, Data: []byte("ab\x00\xff"), Word: []uint64{n, 0, 7}}
				once := func(do api.Do) api.Out { do(a); return api.Out{} }
				asks(t, "whole", once, nil, a)
				asks(t, "whole", once, []api.Result{}, a)
			}
		}
	}
	for _, n := range numbers {
		for _, b := range [][]byte{nil, {}, {0}, []byte("abc")} {
			for _, fail := range []bool{false, true} {
				want := api.Result{N: n, B: b, Fail: fail}
				var got api.Result
				answers(t, "told", func(do api.Do) api.Out { got = do(api.Access{}); return api.Out{} }, []api.Result{want, {N: 9}}, api.Out{})
				if got.N != n || !bytes.Equal(got.B, b) || got.Fail != fail {
					t.Error("told", got, "not", want)
				}
			}
		}
	}
}

// TestRunLeft: behind the access that is asked nothing of the program happens,
// but what it defers (P11.1).
func TestRunLeft(t *testing.T) {
	reached, deferred := 0, 0
	prog := func(do api.Do) api.Out {
		defer func() { deferred++ }()
		for range 5 {
			Load(do, 1)
			reached++
		}
		return api.Out{Is: true}
	}
	for k := range 5 {
		reached, deferred = 0, 0
		asks(t, "left", prog, mixedLog(k, 1), api.Access{Kind: api.ALoad, Cell: 1})
		if reached != k || deferred != 1 {
			t.Error("left", k, reached, deferred)
		}
	}
}

// TestRunDeferred: a program that makes accesses while it is left asks the first
// one that has nothing to be told (P11.1).
func TestRunDeferred(t *testing.T) {
	prog := func(do api.Do) (out api.Out) {
		defer func() { out.W = Swap(do, 9, 1) }()
		defer Store(do, 8, 1)
		Load(do, 3)
		Load(do, 4)
		return api.Out{Is: true}
	}
	played(t, "deferred", prog, mixedLog(6, 2))
}

// TestRunRecovered: a program that recovers asks the first access that has
// nothing to be told, whatever it does then (P11.1).
func TestRunRecovered(t *testing.T) {
	try := func(do api.Do, i int) (ok bool) {
		defer func() { ok = recover() == nil }()
		Load(do, i)
		return true
	}
	for name, then := range map[string]func(do api.Do) api.Out{
		"answers": func(api.Do) api.Out { return api.Out{Is: true, N: 5, List: []int{1}} },
		"asks":    func(do api.Do) api.Out { return api.Out{W: Load(do, 77)} },
		"panics":  func(api.Do) api.Out { panic("other") },
	} {
		prog := func(do api.Do) api.Out {
			for i := range 4 {
				if !try(do, i) {
					return then(do)
				}
			}
			return api.Out{N: 4}
		}
		for k := range 4 {
			asks(t, name, prog, mixedLog(k, 1), api.Access{Kind: api.ALoad, Cell: k})
		}
		for k := 4; k < 7; k++ {
			answers(t, name, prog, mixedLog(k, 1), api.Out{N: 4})
		}
	}
}

// TestRunWithin: a program that plays others is left by its own accesses alone,
// wherever they are made, and goes on when the others are left (P11.1).
func TestRunWithin(t *testing.T) {
	inner := mixedLog(2, 8)
	prog := func(outer api.Do) api.Out {
		var out api.Out
		a, in, done := Run(func(do api.Do) api.Out {
			n := Load(do, 1)
			n += Load(outer, 2)
			return api.Out{W: n + Load(do, 3) + Load(outer, 4)}
		}, inner)
		out.W, out.Is = in.W, done && a.Kind == 0
		a, _, done = Run(func(do api.Do) api.Out {
			defer Store(outer, 5, 6)
			return api.Out{W: Load(do, 7)}
		}, nil)
		out.N = a.Cell
		out.Is = out.Is && !done
		return out
	}
	log := mixedLog(5, 9)
	for k, want := range []api.Access{{Cell: 2}, {Cell: 4}, {Kind: api.AStore, Cell: 5, A: 6}} {
		asks(t, "within", prog, log[:k], want)
	}
	want := api.Out{Is: true, N: 7, W: inner[0].N + inner[1].N + log[0].N + log[1].N}
	for k := 3; k <= 5; k++ {
		answers(t, "within", prog, log[:k], want)
	}
}

// TestRunWithinLeft: a program that is left by one that it plays does nothing
// more: else one that plays others again and again would never end (P11.1).
func TestRunWithinLeft(t *testing.T) {
	rounds := 0
	prog := func(outer api.Do) api.Out {
		for rounds = 0; rounds < 100; rounds++ {
			Run(func(middle api.Do) api.Out {
				Run(func(api.Do) api.Out { return api.Out{W: Load(outer, 6)} }, nil)
				rounds += 100
				return api.Out{}
			}, nil)
		}
		return api.Out{}
	}
	asks(t, "within", prog, nil, api.Access{Kind: api.ALoad, Cell: 6})
	if rounds != 0 {
		t.Error("it isn't left:", rounds)
	}
}

// TestRunWrong: of what is no program nothing is promised, but that each call
// ends, and none panics; it asks nothing, and has no answer.
func TestRunWrong(t *testing.T) {
	var kept api.Do
	Run(func(do api.Do) api.Out { kept = do; return api.Out{} }, nil)
	for name, prog := range map[string]program{
		"nil":    nil,
		"text":   func(api.Do) api.Out { panic("other") },
		"nil's":  func(api.Do) api.Out { panic(nil) },
		"bounds": func(api.Do) api.Out { return api.Out{N: numbersAt(-1)} },
		"behind": func(do api.Do) api.Out { Load(do, 1); panic(7) },
		"kept":   func(api.Do) api.Out { return api.Out{W: Load(kept, 1), Is: true} },
	} {
		a, out, done := Run(prog, mixedLog(3, 1))
		if !sameAccess(a, api.Access{}) || !sameOut(out, api.Out{}) || done {
			t.Error(name, a, out, done)
		}
	}
}

// numbersAt is out of bounds for a negative place.
func numbersAt(i int) int { return int(numbers[i]) }

// TestLine: a row's accesses are asked one after the other, each whole; then
// their count is answered, and the sum of all numbers told (P11.2).
func TestLine(t *testing.T) {
	var l []api.Access
	for i := range 30 {
		l = append(l, api.Access{Kind: i - 3, Cell: places[i%len(places)], A: numbers[i%len(numbers)], B: uint64(i), Data: make([]byte, i%3), Word: make([]uint64, i%4)})
	}
	for seed := range uint64(50) {
		log := mixedLog(34, seed)
		for n := range l {
			var sum uint64
			for k := range n {
				a, out, done := Line(l[:n], log[:k])
				if !sameAccess(a, l[k]) || !sameOut(out, api.Out{}) || done {
					t.Fatal(n, k, a, out, done)
				}
				sum += log[k].N
			}
			for k := n; k <= len(log); k++ {
				a, out, done := Line(l[:n], log[:k])
				if !sameAccess(a, api.Access{}) || !sameOut(out, api.Out{N: n, W: sum}) || !done {
					t.Fatal(n, k, a, out, done)
				}
			}
		}
	}
}

// TestLineNone: no accesses are answered at once (P11.2).
func TestLineNone(t *testing.T) {
	for _, l := range [][]api.Access{nil, {}} {
		for _, log := range [][]api.Result{nil, {}, {{N: 4, Fail: true}}} {
			a, out, done := Line(l, log)
			if !sameAccess(a, api.Access{}) || !sameOut(out, api.Out{}) || !done {
				t.Error(a, out, done)
			}
		}
	}
}

// TestLineRound: the sum goes round at 2^64, and counts what is told beside a
// failure (P11.2, R5).
func TestLineRound(t *testing.T) {
	for _, x := range []struct {
		told []uint64
		want uint64
	}{
		{[]uint64{math.MaxUint64, 1}, 0}, {[]uint64{math.MaxUint64, math.MaxUint64}, math.MaxUint64 - 1},
		{[]uint64{1 << 63, 1 << 63, 5}, 5}, {[]uint64{math.MaxUint64}, math.MaxUint64}, {[]uint64{0, 0, 0}, 0}, {[]uint64{1 << 32, 1 << 32}, 1 << 33},
	} {
		var log []api.Result
		for _, n := range x.told {
			log = append(log, api.Result{N: n, B: []byte("ab"), Fail: n%2 == 1})
		}
		_, out, done := Line(make([]api.Access, len(log)), log)
		if !sameOut(out, api.Out{N: len(log), W: x.want}) || !done {
			t.Error(x.told, out, done)
		}
	}
}

// made is the one access that a call makes, told a result; the call's number is
// kept by the call.
func made(t *testing.T, r api.Result, call func(do api.Do)) api.Access {
	t.Helper()
	var l []api.Access
	call(func(a api.Access) api.Result { l = append(l, a); return r })
	if len(l) != 1 {
		t.Fatal("not one access:", l)
	}
	return l[0]
}

// TestWordCalls: each call of a word makes its access, all else of it 0, and
// tells the number, whatever is told beside it (P11.3).
func TestWordCalls(t *testing.T) {
	for _, i := range places {
		for _, n := range numbers {
			for _, told := range numbers {
				r := api.Result{N: told, B: []byte("ab"), Fail: told%2 == 0}
				var got uint64
				for _, x := range []struct {
					call func(do api.Do)
					want api.Access
					is   uint64
				}{
					{func(do api.Do) { got = Load(do, i) }, api.Access{Kind: 0, Cell: i}, told},
					{func(do api.Do) { Store(do, i, n) }, api.Access{Kind: 1, Cell: i, A: n}, 0},
					{func(do api.Do) { got = Add(do, i, n) }, api.Access{Kind: 3, Cell: i, A: n}, told},
					{func(do api.Do) { got = Swap(do, i, n) }, api.Access{Kind: 4, Cell: i, A: n}, told},
				} {
					got = 0
					if a := made(t, r, x.call); !reflect.DeepEqual(a, x.want) || got != x.is {
						t.Errorf("%v, told %d, not %v, told %d", a, got, x.want, x.is)
					}
				}
			}
		}
	}
}

// TestCas: it makes its access, and is done just if it is told 1 (P11.3).
func TestCas(t *testing.T) {
	for _, i := range places {
		for _, x := range numbers {
			for _, y := range numbers {
				for _, told := range numbers {
					var got bool
					a := made(t, api.Result{N: told, Fail: x > y}, func(do api.Do) { got = Cas(do, i, x, y) })
					if !reflect.DeepEqual(a, api.Access{Kind: 2, Cell: i, A: x, B: y}) || got != (told == 1) {
						t.Fatal(a, got, "of", i, x, y, told)
					}
				}
			}
		}
	}
}

// TestNobody: where nobody makes accesses, calls of a word end, and tell nothing.
func TestNobody(t *testing.T) {
	Store(nil, 1, 2)
	if Load(nil, 1) != 0 || Cas(nil, 1, 2, 3) || Add(nil, 1, 2) != 0 || Swap(nil, 1, 2) != 0 {
		t.Error("nobody tells something")
	}
}

// world is a new world for n threads.
func world(t *testing.T, n int) api.World {
	t.Helper()
	m, e := cell.New(n, 2)
	d, f := disk.New(n)
	if e != api.OK || f != api.OK {
		t.Fatal(e, f)
	}
	return api.World{Mem: m, Disk: d}
}

// TestOnWorld: played on a world, the calls do to its words what chapter 10 says
// of their accesses (P11.1, P11.3).
func TestOnWorld(t *testing.T) {
	prog := func(do api.Do) api.Out {
		var out api.Out
		Store(do, 2, 10)
		out.N = int(Add(do, 2, 5))
		out.Is = Cas(do, 2, 15, 20) && !Cas(do, 2, 15, 30)
		out.List = []int{int(Swap(do, 2, 40)), int(Load(do, 2))}
		return out
	}
	w := world(t, 1)
	var log []api.Result
	var out api.Out
	for done := false; !done; {
		var a api.Access
		var r api.Result
		if a, out, done = Run(prog, log); !done {
			w, r = access.Do(w, 0, a, false)
			log = append(log, r)
		}
	}
	if want := (api.Out{Is: true, N: 10, List: []int{20, 40}}); !sameOut(out, want) || len(log) != 6 || w.Mem.Word[2] != 40 {
		t.Error(out, len(log), w.Mem.Word)
	}
}

// count is a program that makes a word one more, however many others do so too.
func count(do api.Do) api.Out {
	for {
		n := Load(do, 2)
		if Cas(do, 2, n, n+1) {
			return api.Out{W: n}
		}
	}
}

// TestScripts: whoever steps when, an access a step, nothing that is counted is
// lost, and no two programs tell the same number (P11.1, P11.4).
func TestScripts(t *testing.T) {
	for script := range 1 << 12 {
		w := world(t, 2)
		var logs [2][]api.Result
		var over [2]int
		told := map[uint64]bool{}
		for k := range 12 {
			me := script >> k & 1
			a, out, done := Run(count, logs[me])
			if done {
				logs[me] = nil
				over[me]++
				told[out.W] = true
				continue
			}
			var r api.Result
			w, r = access.Do(w, me, a, false)
			logs[me] = append(logs[me], r)
		}
		counted := over[0] + over[1]
		for me := range logs {
			if _, _, done := Run(count, logs[me]); done {
				counted++
			}
		}
		if len(told) != over[0]+over[1] || w.Mem.Word[2] != uint64(counted) {
			t.Fatal(script, over, told, w.Mem.Word[2])
		}
	}
}

// TestSame: a program asks, and answers, the same, told the same, however often
// and in whatever order it is played (P11.4, R4).
func TestSame(t *testing.T) {
	for seed := range uint64(40) {
		log := mixedLog(40, seed)
		for _, prog := range []program{climb, disky, loads(5)} {
			made, out := straight(prog, log)
			for range 2 {
				for k := len(made); k >= 0; k-- {
					if k == len(made) {
						answers(t, "again", prog, log, out)
						continue
					}
					asks(t, "again", prog, log[:k], made[k])
					asks(t, "again", prog, copied(log[:k]), made[k])
				}
			}
		}
	}
}

// TestUnwritten: what is handed in is as it was, its room too, even if a program
// writes into what it is told (R3, P11.4).
func TestUnwritten(t *testing.T) {
	prog := func(do api.Do) api.Out {
		var read []byte
		for range 3 {
			b := do(api.Access{Kind: api.ARead}).B
			read = append(read, b...)
			clear(b)
			_ = append(b, "xyz"...)
		}
		do(api.Access{Kind: api.AWrite, Data: read})
		return api.Out{}
	}
	room := []byte("abcdefghijkl")
	log := []api.Result{{B: room[:2]}, {B: room[4:6]}, {B: room[8:9]}, {N: 7}, {N: 8}}
	for range 3 {
		asks(t, "unwritten", prog, log[:3], api.Access{Kind: api.AWrite, Data: []byte("abefi")})
		answers(t, "unwritten", prog, log, api.Out{})
	}
	if string(room) != "abcdefghijkl" || log[3].N != 7 || log[4].N != 8 || len(log[0].B) != 2 {
		t.Error("what was handed in is turned:", string(room), log)
	}
	l := []api.Access{{Kind: 5, Data: room[:3]}, {Kind: 13, Word: []uint64{1, 2}}}
	for k := range 3 {
		a, _, _ := Line(l, log[:k])
		clear(a.Data)
		clear(a.Word)
	}
	if string(room) != "abcdefghijkl" || !slices.Equal(l[1].Word, []uint64{1, 2}) {
		t.Error("what was handed in is turned:", string(room), l)
	}
}

// TestNotKept: what came out stays, whatever a later call does, and whatever the
// program does while it is left (R3).
func TestNotKept(t *testing.T) {
	data, words, list := make([]byte, 3), make([]uint64, 2), make([]int, 2)
	prog := func(do api.Do) api.Out {
		defer clear(data)
		for i := range 4 {
			data[0], words[1], list[0] = byte(i), uint64(i), i
			n := do(api.Access{Kind: api.AAppend, Data: data, Word: words}).N
			list[1] = int(n)
		}
		return api.Out{List: list}
	}
	log := []api.Result{{N: 1}, {N: 2}, {N: 3}, {N: 4}}
	var asked []api.Access
	for k := range log {
		a, _, _ := Run(prog, log[:k])
		asked = append(asked, a)
	}
	_, out, _ := Run(prog, log)
	_, again, _ := Run(prog, []api.Result{{}, {}, {}, {}})
	for i, a := range asked {
		if !sameAccess(a, api.Access{Kind: api.AAppend, Data: []byte{byte(i), 0, 0}, Word: []uint64{0, uint64(i)}}) {
			t.Error("what came out is turned:", i, a)
		}
	}
	if !slices.Equal(out.List, []int{3, 4}) || !slices.Equal(again.List, []int{3, 0}) {
		t.Error("what came out is turned:", out, again)
	}
}
