package access

import (
	"bytes"
	"math"
	"slices"
	"testing"

	"weald/api"
	"weald/cell"
	"weald/disk"
)

// counts are how many threads a world may be for: few, and the most.
var counts = []int{1, 2, 3, 8, 63, 64}

// numbers are a word's, and those of accesses: small ones, and those at the
// bounds of words.
var numbers = []uint64{
	0, 1, 2, 3, 5, 7, 255, 256, math.MaxUint32, math.MaxUint32 + 1, math.MaxInt64, math.MaxInt64 + 1,
	0x0123456789abcdef, math.MaxUint64 - 1, math.MaxUint64,
}

// wordKinds are the kinds of accesses of a word, diskKinds those of a disk.
var (
	wordKinds = []int{0, 1, 2, 3, 4}
	diskKinds = []int{5, 6, 7, 8, 9, 10, 11, 12}
)

// noKinds are no kinds of accesses. Among them are such as have a kind's low
// bits.
var noKinds = []int{
	math.MinInt, math.MinInt + 2, math.MinInt32, -256, -14, -13, -5, -2, -1, 14, 15, 16, 21, 63, 64, 128, 255, 256, 258,
	261, 1 << 16, 1 << 32, 1<<32 + 1, 1<<32 + 5, math.MaxInt - 1, math.MaxInt,
}

// outside are numbers that no word, and no stream, has as its place.
var outside = []int{
	math.MinInt, math.MinInt + 1, math.MinInt32, -65536, -64, -2, -1, 1 << 20, 1 << 32, 1<<32 + 1, math.MaxInt - 1, math.MaxInt,
}

// mixed are n bytes of all kinds, others for another seed.
func mixed(n int, seed uint32) []byte {
	b := make([]byte, n)
	for i := range b {
		seed = seed*1664525 + 1013904223
		b[i] = byte(seed >> 24)
	}
	return b
}

// mixedWords are n words, no two of them the same.
func mixedWords(n int, seed uint64) []uint64 {
	l := make([]uint64, n)
	for i := range l {
		seed = seed*6364136223846793005 + 1442695040888963407
		l[i] = seed
	}
	return l
}

// sample is a right world: all words and streams are others, more or less of
// them synced, and there is room behind all of them.
func sample(t, c int, root uint64) api.World {
	size := 8 + t + 8*c
	w := api.World{
		Mem:  api.Mem{T: t, C: c, Word: mixedWords(size+5, root+7)[:size]},
		Disk: api.Disk{Root: root},
	}
	for row := range w.Disk.Rows {
		l := make([]api.Stream, t, t+3)
		for i := range l {
			n := (row*t+i)%11 + 3
			l[i] = api.Stream{Data: mixed(n+9, uint32(row*100+i))[:n], Synced: (n + i) % n}
		}
		w.Disk.Rows[row] = l
	}
	return w
}

// copied is the same world, in memory of its own.
func copied(w api.World) api.World {
	w.Mem.Word = slices.Clone(w.Mem.Word)
	for row := range w.Disk.Rows {
		w.Disk.Rows[row] = slices.Clone(w.Disk.Rows[row])
		for i := range w.Disk.Rows[row] {
			w.Disk.Rows[row][i].Data = bytes.Clone(w.Disk.Rows[row][i].Data)
		}
	}
	return w
}

// whole is a world with all of its room: what stands behind its words, its
// rows, and its streams' bytes.
func whole(w api.World) api.World {
	w.Mem.Word = w.Mem.Word[:cap(w.Mem.Word)]
	for row := range w.Disk.Rows {
		w.Disk.Rows[row] = slices.Clone(w.Disk.Rows[row][:cap(w.Disk.Rows[row])])
		for i, s := range w.Disk.Rows[row] {
			w.Disk.Rows[row][i].Data = s.Data[:cap(s.Data)]
		}
	}
	return copied(w)
}

// same: have two streams the same bytes, as many of them synced?
func same(x, y api.Stream) bool { return bytes.Equal(x.Data, y.Data) && x.Synced == y.Synced }

// check: is this world that one?
func check(t *testing.T, what string, w, want api.World) {
	t.Helper()
	if w.Mem.T != want.Mem.T || w.Mem.C != want.Mem.C || !slices.Equal(w.Mem.Word, want.Mem.Word) {
		t.Errorf("%s: another memory: %d threads, %d records, %d words", what, w.Mem.T, w.Mem.C, len(w.Mem.Word))
	}
	if w.Disk.Root != want.Disk.Root {
		t.Errorf("%s: the root is %d, not %d", what, w.Disk.Root, want.Disk.Root)
	}
	for row := range want.Disk.Rows {
		if !slices.EqualFunc(w.Disk.Rows[row], want.Disk.Rows[row], same) {
			t.Errorf("%s: row %d is %v, not %v", what, row, w.Disk.Rows[row], want.Disk.Rows[row])
		}
	}
}

// told: is this what is told?
func told(t *testing.T, what string, r, want api.Result) {
	t.Helper()
	if r.N != want.N || !bytes.Equal(r.B, want.B) || r.Fail != want.Fail {
		t.Errorf("%s: told %v, not %v", what, r, want)
	}
}

// slowDo is the chapter's word of an access, written into a copy of the world.
func slowDo(w api.World, me int, a api.Access, fail bool) (api.World, api.Result) {
	w = copied(w)
	var r api.Result
	if fail && slices.Contains(diskKinds, a.Kind) {
		return w, api.Result{Fail: true}
	}
	row := w.Disk.Rows[w.Disk.Root%2]
	other := w.Disk.Rows[(w.Disk.Root+1)%2]
	if slices.Contains(wordKinds, a.Kind) {
		if a.Cell >= 0 && a.Cell < len(w.Mem.Word) {
			r.N = slowWord(&w.Mem.Word[a.Cell], a)
		}
		return w, r
	}
	switch a.Kind {
	case 5:
		row[me].Data = append(row[me].Data, a.Data...)
	case 6:
		row[me].Synced = len(row[me].Data)
	case 7:
		r.N = w.Disk.Root
	case 8:
		if a.Cell >= 0 && a.Cell < len(row) {
			r.B = row[a.Cell].Data
		}
	case 9:
		clear(other)
	case 10:
		other[0].Data = append(other[0].Data, a.Data...)
	case 11:
		other[0].Synced = len(other[0].Data)
	case 12:
		w.Disk.Root++
	case 13:
		if len(a.Word) == len(w.Mem.Word) {
			w.Mem.Word = slices.Clone(a.Word)
		}
	}
	return w, r
}

// slowWord is the chapter's word of an access of a word.
func slowWord(word *uint64, a api.Access) uint64 {
	was := *word
	switch a.Kind {
	case 0:
		return was
	case 1:
		*word = a.A
	case 2:
		if was == a.A {
			*word = a.B
			return 1
		}
	case 3:
		*word = was + a.A
		return was
	case 4:
		*word = a.A
		return was
	}
	return 0
}

// try makes an access, looks whether all is as the chapter says, and whether
// the world that was handed in is as it was.
func try(t *testing.T, what string, w api.World, me int, a api.Access, fail bool) api.World {
	t.Helper()
	was := copied(w)
	want, says := slowDo(w, me, a, fail)
	got, r := Do(w, me, a, fail)
	check(t, what, got, want)
	told(t, what, r, says)
	check(t, what+": what was handed in", w, was)
	return got
}

// TestExample: that of the chapter (P10.2).
func TestExample(t *testing.T) {
	w := sample(1, 1, 0)
	w.Mem.Word[3] = 5
	got, r := Do(w, 0, api.Access{Kind: api.ACas, Cell: 3, A: 5, B: 7}, false)
	told(t, "cas", r, api.Result{N: 1})
	if got.Mem.Word[3] != 7 {
		t.Error("the word is", got.Mem.Word[3])
	}
}

// TestKindNumbers: kinds are the numbers that the chapter names (P10.2).
func TestKindNumbers(t *testing.T) {
	for want, kind := range []int{
		api.ALoad, api.AStore, api.ACas, api.AAdd, api.ASwap, api.AAppend, api.ASync, api.ARoot, api.ARead, api.AClear,
		api.AWrite, api.AFlush, api.ASetRoot, api.AInstall,
	} {
		if kind != want {
			t.Error(kind, want)
		}
	}
}

// TestRight: a world is right, if its disk has as many streams in a row as its
// memory is for threads (P10.1).
func TestRight(t *testing.T) {
	for threads := range 67 {
		for streams := range 67 {
			l := make([]api.Stream, streams)
			w := api.World{
				Mem:  api.Mem{T: threads, C: 1, Word: make([]uint64, 16+threads)},
				Disk: api.Disk{Rows: [2][]api.Stream{l, slices.Clone(l)}},
			}
			if want := threads == streams && threads >= 1 && threads <= 64; Right(w) != want {
				t.Errorf("of %d threads and %d streams: not %v", threads, streams, want)
			}
		}
	}
	for _, n := range counts {
		for _, c := range []int{0, 1, 2, 100, 65535, 65536} {
			m, _ := cell.New(n, c)
			d, _ := disk.New(n)
			if !Right(api.World{Mem: m, Disk: d}) || !Right(sample(n, c, math.MaxUint64)) {
				t.Error("not right:", n, c)
			}
		}
	}
}

// TestRightMemory: a memory that isn't right, and a world isn't (P10.1).
func TestRightMemory(t *testing.T) {
	for _, n := range counts {
		good := sample(n, 2, 1)
		for i, m := range []api.Mem{
			{}, {T: n}, {T: n, C: 2}, {T: n, C: 2, Word: good.Mem.Word[1:]}, {T: n, C: 2, Word: good.Mem.Word[:len(good.Mem.Word)+1]},
			{T: n, C: 1, Word: good.Mem.Word}, {T: n, C: 3, Word: good.Mem.Word}, {T: n, C: -1, Word: make([]uint64, n)},
			{T: n, C: 65537, Word: make([]uint64, 8+n+8*65537)}, {T: -n, C: 2, Word: make([]uint64, max(0, 24-n))},
			{T: n + 8, C: 1, Word: good.Mem.Word}, {T: n, C: 2 + 1<<61, Word: good.Mem.Word},
		} {
			if w := good; !Right(w) {
				t.Error("not right:", n)
			} else if w.Mem = m; Right(w) {
				t.Error("right:", n, i)
			}
		}
	}
}

// TestRightDisk: a disk that isn't right, and a world isn't (P10.1).
func TestRightDisk(t *testing.T) {
	for _, n := range counts {
		row, more := make([]api.Stream, n), make([]api.Stream, n+1)
		for i, d := range []api.Disk{
			{}, {Rows: [2][]api.Stream{row, nil}}, {Rows: [2][]api.Stream{nil, row}}, {Rows: [2][]api.Stream{row, more}},
			{Rows: [2][]api.Stream{more, row}}, {Rows: [2][]api.Stream{row, row[1:]}}, {Rows: [2][]api.Stream{more, more}},
			{Rows: [2][]api.Stream{row[1:], row[1:]}},
		} {
			w := sample(n, 2, 1)
			w.Disk = d
			if Right(w) {
				t.Error("right:", n, i)
			}
		}
		for row := range 2 {
			for i := range n {
				for _, off := range []int{-20, 1, math.MaxInt - 20, math.MinInt} {
					w := sample(n, 2, 1)
					w.Disk.Rows[row][i].Synced = len(w.Disk.Rows[row][i].Data) + off
					if Right(w) {
						t.Error("right:", n, row, i, off)
					}
				}
			}
		}
	}
	if Right(api.World{}) {
		t.Error("an empty world is right")
	}
}

// TestDisk: kinds from 5 to 12 are the disk's, and no other one is (P10.1).
func TestDisk(t *testing.T) {
	for kind := -1000; kind <= 1000; kind++ {
		if want := slices.Contains(diskKinds, kind); Disk(kind) != want {
			t.Errorf("kind %d: not %v", kind, want)
		}
	}
	for _, kind := range noKinds {
		if Disk(kind) {
			t.Error("the disk's:", kind)
		}
	}
}

// TestWords: each access of a word, of each one of a memory, and with all
// numbers (P10.2, P10.3).
func TestWords(t *testing.T) {
	for _, n := range []int{1, 2, 64} {
		for _, c := range []int{0, 1, 3} {
			w := sample(n, c, uint64(n))
			for place := range w.Mem.Word {
				for _, kind := range wordKinds {
					for _, a := range numbers {
						try(t, "a word", w, n-1, api.Access{Kind: kind, Cell: place, A: a, B: ^a}, false)
					}
					same := w.Mem.Word[place]
					try(t, "the same word", w, n-1, api.Access{Kind: kind, Cell: place, A: same, B: 9}, false)
					try(t, "the same word twice", w, n-1, api.Access{Kind: kind, Cell: place, A: same, B: same}, false)
				}
			}
		}
	}
}

// TestWordNumbers: each access of a word, of all numbers with all others
// (P10.2).
func TestWordNumbers(t *testing.T) {
	for _, word := range numbers {
		w := sample(1, 0, 0)
		w.Mem.Word[2] = word
		for _, a := range numbers {
			for _, x := range []struct {
				kind     int
				is, told uint64
			}{{api.ALoad, word, word}, {api.AStore, a, 0}, {api.AAdd, word + a, word}, {api.ASwap, a, word}} {
				got, r := Do(w, 0, api.Access{Kind: x.kind, Cell: 2, A: a, B: 77}, false)
				if told(t, "a word", r, api.Result{N: x.told}); got.Mem.Word[2] != x.is {
					t.Errorf("kind %d of %d with %d: it is %d, not %d", x.kind, word, a, got.Mem.Word[2], x.is)
				}
			}
			for _, b := range numbers {
				is, says := word, uint64(0)
				if word == a {
					is, says = b, 1
				}
				got, r := Do(w, 0, api.Access{Kind: api.ACas, Cell: 2, A: a, B: b}, false)
				if told(t, "cas", r, api.Result{N: says}); got.Mem.Word[2] != is {
					t.Errorf("cas of %d, from %d to %d: it is %d, not %d", word, a, b, got.Mem.Word[2], is)
				}
			}
		}
	}
}

// TestRound: what is added goes round (R5).
func TestRound(t *testing.T) {
	w := sample(1, 0, 0)
	w.Mem.Word[0] = math.MaxUint64
	got, r := Do(w, 0, api.Access{Kind: api.AAdd, A: 3}, false)
	told(t, "add", r, api.Result{N: math.MaxUint64})
	if got.Mem.Word[0] != 2 {
		t.Error("the word is", got.Mem.Word[0])
	}
}

// TestNoWord: where there is no word, nothing happens, and nothing is told
// (P10.2).
func TestNoWord(t *testing.T) {
	for _, n := range counts {
		for _, c := range []int{0, 1, 5} {
			w := sample(n, c, 3)
			size := len(w.Mem.Word)
			for _, place := range append(slices.Clone(outside), size, size+1, size+4, size+5, size+8, -size) {
				for _, kind := range wordKinds {
					for _, a := range numbers {
						got, r := Do(w, 0, api.Access{Kind: kind, Cell: place, A: a, B: 5}, false)
						told(t, "no word", r, api.Result{})
						check(t, "no word", got, w)
					}
				}
			}
		}
	}
}

// TestLargest: of the largest memory the last word is reached, and none behind
// it (P10.2).
func TestLargest(t *testing.T) {
	m, _ := cell.New(64, 65536)
	d, _ := disk.New(64)
	w := api.World{Mem: m, Disk: d}
	last := cell.Field(64, 65536, api.FLink)
	for _, kind := range wordKinds {
		w = try(t, "the last word", w, 63, api.Access{Kind: kind, Cell: last, A: 7, B: 8}, false)
		w = try(t, "none", w, 63, api.Access{Kind: kind, Cell: last + 1, A: 9, B: 8}, false)
	}
	try(t, "all words", w, 63, api.Access{Kind: api.AInstall, Word: mixedWords(last+1, 1)}, false)
}

// TestStreams: each access of a disk, by each thread, with either row as the
// root's, and with all that it takes, or none of it (P10.2, P10.3).
func TestStreams(t *testing.T) {
	for _, n := range counts {
		for _, root := range []uint64{0, 1, 2, 3, math.MaxInt64, math.MaxInt64 + 1, math.MaxUint64 - 1, math.MaxUint64} {
			w := sample(n, 1, root)
			for me := range n {
				for _, kind := range diskKinds {
					for _, b := range [][]byte{nil, {}, {0}, []byte("ab"), mixed(300, 1)} {
						// A cell counts for nothing, but where a stream is read.
						try(t, "a stream", w, me, api.Access{Kind: kind, Cell: (me + 1) % n, A: 3, B: 4, Data: b}, false)
					}
				}
			}
		}
	}
}

// TestOwnStream: a thread's bytes stand in its own stream of the root's row,
// and it is that one which is synced (P10.2).
func TestOwnStream(t *testing.T) {
	for root := range uint64(4) {
		for me := range 3 {
			d, _ := disk.New(3)
			m, _ := cell.New(3, 0)
			w := api.World{Mem: m, Disk: disk.SetRoot(d, root)}
			w, r := Do(w, me, api.Access{Kind: api.AAppend, Data: []byte("ab")}, false)
			told(t, "append", r, api.Result{})
			w, r = Do(w, me, api.Access{Kind: api.ASync}, false)
			told(t, "sync", r, api.Result{})
			w, _ = Do(w, me, api.Access{Kind: api.AAppend, Data: []byte("c")}, false)
			for row := range 2 {
				for i, s := range w.Disk.Rows[row] {
					want := api.Stream{}
					if i == me && row == int(root%2) {
						want = api.Stream{Data: []byte("abc"), Synced: 2}
					}
					if !same(s, want) {
						t.Errorf("root %d, thread %d: stream %d of row %d is %v, not %v", root, me, i, row, s, want)
					}
				}
			}
			for i := range 3 {
				want := ""
				if i == me {
					want = "abc"
				}
				_, r = Do(w, 0, api.Access{Kind: api.ARead, Cell: i}, false)
				told(t, "read", r, api.Result{B: []byte(want)})
			}
		}
	}
}

// TestAnew: the other row is cleared, its first stream written and flushed,
// whoever asks; then the root names it (P10.2).
func TestAnew(t *testing.T) {
	for _, root := range []uint64{0, 1, 2, 3, math.MaxUint64 - 1, math.MaxUint64} {
		for me := range 3 {
			w := sample(3, 1, root)
			want := copied(w)
			other := int((root + 1) % 2)
			want.Disk.Root = root + 1
			want.Disk.Rows[other] = []api.Stream{{Data: []byte("abc"), Synced: 2}, {}, {}}
			for _, a := range []api.Access{
				{Kind: api.AClear}, {Kind: api.AWrite, Data: []byte("ab")}, {Kind: api.AFlush},
				{Kind: api.AWrite, Data: []byte("c")}, {Kind: api.ASetRoot},
			} {
				var r api.Result
				w, r = Do(w, me, a, false)
				told(t, "anew", r, api.Result{})
			}
			check(t, "anew", w, want)
			_, r := Do(w, me, api.Access{Kind: api.ARoot}, false)
			told(t, "the root", r, api.Result{N: root + 1})
			_, r = Do(w, me, api.Access{Kind: api.ARead}, false)
			told(t, "read", r, api.Result{B: []byte("abc")})
		}
	}
}

// TestNoStream: what is read of a stream that isn't there is nothing, and no
// failure (P10.2).
func TestNoStream(t *testing.T) {
	for _, n := range counts {
		for root := range uint64(2) {
			w := sample(n, 0, root)
			for _, i := range append(slices.Clone(outside), n, n+1, n+2, n+3, 64, 65, -n) {
				got, r := Do(w, 0, api.Access{Kind: api.ARead, Cell: i}, false)
				told(t, "no stream", r, api.Result{})
				check(t, "no stream", got, w)
			}
		}
	}
}

// TestFail: a failure is told alone, and nothing happens, of a disk's kinds; of
// all others it counts for nothing (P10.2).
func TestFail(t *testing.T) {
	for _, n := range counts {
		for root := range uint64(3) {
			w := sample(n, 1, root)
			for me := range n {
				for kind := -1; kind <= 15; kind++ {
					a := api.Access{Kind: kind, Cell: n - 1, A: 3, B: 4, Data: []byte("ab"), Word: mixedWords(len(w.Mem.Word), 3)}
					got, r := Do(w, me, a, true)
					if kind >= 5 && kind <= 12 {
						told(t, "failed", r, api.Result{Fail: true})
						check(t, "failed", got, w)
						continue
					}
					want, says := Do(w, me, a, false)
					told(t, "not failed", r, says)
					check(t, "not failed", got, want)
					try(t, "not failed", w, me, a, true)
				}
			}
		}
	}
	got, r := Do(sample(2, 0, 1), 0, api.Access{Kind: api.ARead, Cell: 9}, true)
	told(t, "failed, of no stream", r, api.Result{Fail: true})
	check(t, "failed, of no stream", got, sample(2, 0, 1))
}

// TestInstall: as many words as the memory has are its words from then on, and
// what else it has is as it was (P10.2).
func TestInstall(t *testing.T) {
	for _, n := range counts {
		for _, c := range []int{0, 1, 7} {
			w := sample(n, c, 2)
			size := len(w.Mem.Word)
			for _, words := range [][]uint64{make([]uint64, size), mixedWords(size, 5), mixedWords(size+9, 6)[:size], w.Mem.Word} {
				got, r := Do(w, n-1, api.Access{Kind: api.AInstall, Cell: 3, A: 4, B: 5, Data: []byte("ab"), Word: words}, false)
				want := copied(w)
				want.Mem.Word = slices.Clone(words)
				told(t, "install", r, api.Result{})
				check(t, "install", got, want)
				check(t, "as it was", w, sample(n, c, 2))
			}
		}
	}
}

// TestNoInstall: of more words, or less, nothing happens (P10.2).
func TestNoInstall(t *testing.T) {
	for _, n := range counts {
		w := sample(n, 2, 2)
		size := len(w.Mem.Word)
		for _, words := range [][]uint64{
			nil, {}, {1}, mixedWords(size-1, 1), mixedWords(size+1, 1), mixedWords(size+5, 1), mixedWords(size+8, 1), mixedWords(size-8, 1),
			mixedWords(2*size, 1), mixedWords(size, 1)[:size-1],
		} {
			got, r := Do(w, 0, api.Access{Kind: api.AInstall, Word: words}, false)
			told(t, "install", r, api.Result{})
			check(t, "install", got, w)
		}
	}
}

// TestNoKind: of any other kind nothing happens, and nothing is told, failure
// or not (P10.2).
func TestNoKind(t *testing.T) {
	w := sample(2, 1, 3)
	for _, kind := range noKinds {
		for _, fail := range []bool{false, true} {
			for me := range 2 {
				a := api.Access{Kind: kind, Cell: 1, A: w.Mem.Word[1], B: 4, Data: []byte("ab"), Word: mixedWords(len(w.Mem.Word), 3)}
				got, r := Do(w, me, a, fail)
				told(t, "no kind", r, api.Result{})
				check(t, "no kind", got, w)
			}
		}
	}
}

// turned is how many words, streams, rows (of more than one stream) and roots
// of two worlds are others.
func turned(x, y api.World) (words, streams, rows, roots int) {
	for i := range x.Mem.Word {
		if x.Mem.Word[i] != y.Mem.Word[i] {
			words++
		}
	}
	for row := range x.Disk.Rows {
		was := streams
		for i := range x.Disk.Rows[row] {
			if !same(x.Disk.Rows[row][i], y.Disk.Rows[row][i]) {
				streams++
			}
		}
		if streams > was {
			rows++
		}
	}
	if x.Disk.Root != y.Disk.Root {
		roots++
	}
	return words, streams, rows, roots
}

// TestOne: an access turns one word, or one stream, or a row, or the root, at
// most (P10.3).
func TestOne(t *testing.T) {
	for kind := -1; kind <= 15; kind++ {
		for place := range 20 {
			for root := range uint64(2) {
				for me := range 3 {
					w := sample(3, 1, root)
					got, _ := Do(w, me, api.Access{Kind: kind, Cell: place, A: w.Mem.Word[place%len(w.Mem.Word)], B: 4, Data: []byte("ab")}, false)
					words, streams, rows, roots := turned(w, got)
					if words+rows+roots > 1 || streams > 1 && kind != api.AClear {
						t.Error("more than one:", kind, place, root, me, words, streams, rows, roots)
					}
					if got.Mem.T != 3 || got.Mem.C != 1 || !Right(got) {
						t.Error("not right any more:", kind, place, root, me)
					}
				}
			}
		}
	}
}

// anyAccess is an access of a kind that is or isn't, by bytes.
func anyAccess(w api.World, b []byte) api.Access {
	a := api.Access{Kind: int(b[0])%17 - 1, Cell: int(b[1]) % (len(w.Mem.Word) + 1), A: uint64(b[2] % 4), B: uint64(b[3] % 4), Data: b[4 : 4+b[4]%4]}
	if a.Kind == api.ARead {
		a.Cell %= w.Mem.T + 1
	}
	if b[1] == 255 {
		a.A = math.MaxUint64
	}
	if a.Kind == api.AInstall {
		a.Word = mixedWords(len(w.Mem.Word)+int(b[2]%3)-1, uint64(b[3]))
	}
	return a
}

// TestRows: through rows of all accesses the world is what they made of it, one
// by one (P10.2, P10.3).
func TestRows(t *testing.T) {
	for seed := range uint32(300) {
		n, c := int(seed%5)+1, int(seed%3)
		m, _ := cell.New(n, c)
		d, _ := disk.New(n)
		w := api.World{Mem: m, Disk: d}
		b := mixed(2000, seed)
		for k := 0; k+10 < len(b); k += 10 {
			w = try(t, "in a row", w, int(b[k+9])%n, anyAccess(w, b[k:]), b[k+8] > 200)
			if !Right(w) {
				t.Fatal("not right:", seed, k)
			}
		}
	}
}

// samples are accesses of all kinds, that turn something where they may.
func samples(w api.World) []api.Access {
	var l []api.Access
	for kind := -1; kind <= 14; kind++ {
		l = append(l, api.Access{Kind: kind, Cell: 0, A: 3, B: 4, Data: []byte("xyz"), Word: mixedWords(len(w.Mem.Word), 9)})
		l = append(l, api.Access{Kind: kind, Cell: w.Mem.T - 1, A: w.Mem.Word[w.Mem.T-1], B: 5, Data: mixed(99, 1)})
	}
	return l
}

// TestUnwritten: what is handed in is as it was, its room too (R3), and a
// second call tells the same (R4).
func TestUnwritten(t *testing.T) {
	for _, n := range counts {
		for root := range uint64(2) {
			w := sample(n, 2, root)
			was, room := copied(w), whole(w)
			for _, a := range samples(w) {
				data, words := bytes.Clone(a.Data), slices.Clone(a.Word)
				for range 2 {
					try(t, "once more", w, n-1, a, false)
					try(t, "once more, failed", w, n-1, a, true)
				}
				if !bytes.Equal(a.Data, data) || !slices.Equal(a.Word, words) {
					t.Error("what was handed in is turned:", n, a.Kind)
				}
			}
			check(t, "what was handed in", w, was)
			check(t, "its room", whole(w), room)
		}
	}
}

// TestNotKept: bytes and words that were handed in are the world's own, and
// bytes that were read their reader's: what is laid in their place turns no
// world (R3).
func TestNotKept(t *testing.T) {
	w := sample(2, 1, 1)
	words, data := mixedWords(len(w.Mem.Word), 4), []byte("abc")
	var r api.Result
	for _, a := range []api.Access{{Kind: api.AInstall, Word: words}, {Kind: api.AAppend, Data: data}, {Kind: api.AWrite, Data: data}} {
		w, _ = Do(w, 1, a, false)
	}
	want := copied(w)
	clear(words)
	clear(data)
	check(t, "what was handed in is kept", w, want)
	_, r = Do(w, 0, api.Access{Kind: api.ARead, Cell: 1}, false)
	clear(r.B)
	check(t, "what was told is kept", w, want)
	_, r = Do(w, 0, api.Access{Kind: api.ARead, Cell: 1}, false)
	was := bytes.Clone(r.B)
	next, _ := Do(w, 1, api.Access{Kind: api.AAppend, Data: []byte("def")}, false)
	if more := append(r.B, "xyz"...); !bytes.Equal(more[:len(was)], was) || string(more[len(was):]) != "xyz" {
		t.Errorf("what was told is turned: %q", more)
	}
	_, r = Do(next, 0, api.Access{Kind: api.ARead, Cell: 1}, false)
	told(t, "read", r, api.Result{B: append(was, "def"...)})
}

// TestBranches: of one world, and of what any access makes of it, each goes its
// own way: none turns what another one made (R3).
func TestBranches(t *testing.T) {
	for _, n := range []int{1, 2, 5} {
		for root := range uint64(2) {
			start := sample(n, 1, root)
			for _, first := range samples(start) {
				w, _ := Do(start, n-1, first, false)
				was := copied(w)
				var made, want []api.World
				for _, a := range samples(w) {
					next, _ := Do(w, n-1, a, false)
					wanted, _ := slowDo(was, n-1, a, false)
					made, want = append(made, next), append(want, wanted)
				}
				for i := range made {
					check(t, "a branch", made[i], want[i])
				}
				check(t, "where they part", w, was)
			}
			check(t, "the start", start, sample(n, 1, root))
		}
	}
}

// TestWrong: of worlds that aren't right, and of numbers that are no thread's,
// nothing is promised, but that each call ends, and none panics.
func TestWrong(t *testing.T) {
	long := make([]api.Stream, 70)
	long[69] = api.Stream{Data: []byte("abc"), Synced: 9}
	bad := []api.Stream{{Synced: -1}, {Data: []byte("ab"), Synced: math.MinInt}, {Synced: math.MaxInt}}
	worlds := []api.World{{}, sample(2, 1, 1)}
	for _, m := range []api.Mem{{}, {T: -1, C: -1}, {T: math.MaxInt, C: math.MaxInt, Word: make([]uint64, 3)}, {T: 3, Word: make([]uint64, 11)}} {
		for _, rows := range [][2][]api.Stream{{}, {nil, bad}, {bad, nil}, {bad, long}, {long, bad}, {long, long}} {
			for _, root := range []uint64{0, 1, math.MaxUint64} {
				worlds = append(worlds, api.World{Mem: m, Disk: api.Disk{Root: root, Rows: rows}})
			}
		}
	}
	for _, w := range worlds {
		Right(w)
		for _, me := range append(slices.Clone(outside), 0, 1, 2, 3, 69, 70) {
			for _, kind := range append(slices.Clone(noKinds), 0, 1, 2, 3, 4, 5, 6, 7, 8, 9, 10, 11, 12, 13) {
				for _, place := range append(slices.Clone(outside), 0, 2, 3, 69) {
					a := api.Access{Kind: kind, Cell: place, A: 1, B: 2, Data: []byte("ab"), Word: make([]uint64, 3)}
					Do(w, me, a, false)
					Do(w, me, a, true)
				}
			}
		}
	}
}
