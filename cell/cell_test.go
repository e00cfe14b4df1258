package cell

import (
	"math"
	"slices"
	"testing"

	"weald/api"
	"weald/word"
)

// threads and records are how many a memory may be for: few, and the most.
var (
	threads = []int{1, 2, 3, 8, 63, 64}
	records = []int{0, 1, 2, 3, 7, 64, 1000, 65535, 65536}
)

// noThreads and noRecords are how many it may not be for. Among them are such
// whose low bits are of one that may be, and such as make sizes go round.
var (
	noThreads = []int{
		math.MinInt, math.MinInt + 1, math.MinInt32, math.MinInt/8 + 1, -64, -8, -2, -1, 0,
		65, 66, 128, 256, 257, 1 << 32, 1<<32 + 1, math.MaxInt - 8, math.MaxInt - 1, math.MaxInt,
	}
	noRecords = []int{
		math.MinInt, math.MinInt + 1, math.MinInt / 8, math.MinInt/8 + 1, math.MinInt32, -65536, -8, -2, -1,
		65537, 65538, 1 << 17, 1 << 20, 1 << 32, 1<<32 + 1, 1 << 61, 1<<61 + 1, math.MaxInt - 1, math.MaxInt,
	}
)

// wordCount is the chapter's word of how many words a memory has.
func wordCount(t, c int) int { return 8 + t + 8*c }

// TestExamples: those of the chapter (P9.1, P9.2).
func TestExamples(t *testing.T) {
	if p := Field(2, 1, 0); p != 10 {
		t.Error("Field(2, 1, 0):", p)
	}
	m, e := New(2, 3)
	if e != api.OK || len(m.Word) != 34 {
		t.Error("New(2, 3):", e, len(m.Word))
	}
	want := make([]uint64, 34)
	want[1], want[17], want[25] = 1, 2, 3
	if !slices.Equal(m.Word, want) {
		t.Error("New(2, 3):", m.Word)
	}
}

// TestPin: a pin for each thread, behind what all threads share (P9.1).
func TestPin(t *testing.T) {
	for i := range 64 {
		if p := Pin(i); p != 8+i {
			t.Error(i, p)
		}
	}
}

// TestField: eight words for each record, from 1 on, behind the pins, in the
// order that the chapter tells (P9.1).
func TestField(t *testing.T) {
	for n := 1; n <= 64; n++ {
		for _, r := range records[1:] {
			for f := range 8 {
				if p := Field(n, r, f); p != 8+n+8*(r-1)+f {
					t.Error(n, r, f, p)
				}
			}
		}
	}
	for _, x := range []struct{ t, r, f, want int }{
		{1, 1, api.FNext, 9}, {1, 1, api.FKey, 10}, {1, 1, api.FFlag, 11}, {1, 1, api.FEnds, 12},
		{1, 1, api.FSU, 13}, {1, 1, api.FSV, 14}, {1, 1, api.FWeight, 15}, {1, 1, api.FLink, 16},
		{1, 2, api.FNext, 17}, {64, 1, api.FNext, 72}, {64, 65536, api.FLink, 524359},
	} {
		if p := Field(x.t, x.r, x.f); p != x.want {
			t.Error(x.t, x.r, x.f, p)
		}
	}
}

// TestNext: the head follows 0, however many threads there are; a record's own
// next word follows it (P9.1).
func TestNext(t *testing.T) {
	for n := 1; n <= 64; n++ {
		if p := Next(n, 0); p != 0 {
			t.Error(n, p)
		}
		for _, r := range records[1:] {
			if p := Next(n, r); p != 8+n+8*(r-1) {
				t.Error(n, r, p)
			}
		}
	}
}

// checkNew looks at each word of a memory that is new: all are 0, but the top,
// and links (P9.2).
func checkNew(t *testing.T, n, c int) {
	t.Helper()
	m, e := New(n, c)
	if e != api.OK || m.T != n || m.C != c || len(m.Word) != wordCount(n, c) {
		t.Fatal("of another kind:", n, c, e, m.T, m.C, len(m.Word))
	}
	want := make([]uint64, wordCount(n, c))
	if c > 0 {
		want[1] = 1
	}
	for r := 1; r < c; r++ {
		want[8+n+8*(r-1)+7] = uint64(r + 1)
	}
	for i, w := range m.Word {
		if w != want[i] {
			t.Fatalf("%d threads, %d records: word %d is %d, not %d", n, c, i, w, want[i])
		}
	}
	if !Right(m) {
		t.Error("a new memory isn't right:", n, c)
	}
}

// TestNew: of all counts of threads, and of few records, and the most (P9.2).
func TestNew(t *testing.T) {
	for n := 1; n <= 64; n++ {
		for c := range 20 {
			checkNew(t, n, c)
		}
	}
	for _, n := range threads {
		for _, c := range records {
			checkNew(t, n, c)
		}
	}
}

// TestNewChain: from the top on each record is free once, in order, and then
// there is none (P9.2).
func TestNewChain(t *testing.T) {
	for _, n := range threads {
		for _, c := range records {
			m, _ := New(n, c)
			if word.Tag(m.Word[api.CTop]) != 0 {
				t.Error("a tag:", n, c)
			}
			at := word.First(m.Word[api.CTop])
			for r := 1; r <= c; r++ {
				if at != r {
					t.Fatalf("%d threads, %d records: %d instead of %d", n, c, at, r)
				}
				at = int(m.Word[Field(n, r, api.FLink)])
			}
			if at != 0 {
				t.Error("one more:", n, c, at)
			}
		}
	}
}

// TestNewWrong: counts that may not be are refused, and there is nothing beside
// the code (P9.2).
func TestNewWrong(t *testing.T) {
	refused := func(n, c int) {
		m, e := New(n, c)
		if e != api.ErrArg || m.T != 0 || m.C != 0 || m.Word != nil {
			t.Error("not refused:", n, c, e, m.T, m.C, len(m.Word))
		}
	}
	for _, n := range noThreads {
		for _, c := range append(slices.Clone(records), noRecords...) {
			refused(n, c)
		}
	}
	for _, c := range noRecords {
		for n := 1; n <= 64; n++ {
			refused(n, c)
		}
	}
}

// TestNewApart: two memories share nothing, and a second call tells the same
// (R3, R4).
func TestNewApart(t *testing.T) {
	one, _ := New(3, 5)
	for i := range one.Word {
		one.Word[i] = math.MaxUint64
	}
	if !Right(one) {
		t.Error("what words say turns whether a memory is right")
	}
	checkNew(t, 3, 5)
	other, _ := New(3, 5)
	clear(other.Word)
	if !Right(other) || one.Word[1] != math.MaxUint64 {
		t.Error("two memories share their words")
	}
	checkNew(t, 3, 5)
}

// TestRight: a memory is right, if it has as many words as its counts say, none
// less, and none more (P9.2).
func TestRight(t *testing.T) {
	all := make([]uint64, wordCount(64, 65536)+100)
	for _, n := range threads {
		for _, c := range records {
			size := wordCount(n, c)
			for _, k := range []int{0, 1, 8, size - 8, size - 1, size, size + 1, size + 8, size + 9, len(all)} {
				m := api.Mem{T: n, C: c, Word: all[:k]}
				if Right(m) != (k == size) {
					t.Errorf("%d threads, %d records, %d words: not %v", n, c, k, k == size)
				}
			}
			if Right(api.Mem{T: n, C: c}) {
				t.Error("right without words:", n, c)
			}
		}
	}
}

// TestRightRoom: words count, not the room behind them (P9.2).
func TestRightRoom(t *testing.T) {
	room := make([]uint64, 17, 50)
	if !Right(api.Mem{T: 1, C: 1, Word: room}) || Right(api.Mem{T: 2, C: 5, Word: room}) || Right(api.Mem{T: 1, C: 1, Word: room[:16]}) {
		t.Error("room counts")
	}
}

// TestRightWrong: counts that may not be make no memory that is right, even
// with as many words as they say, or as they say gone round (P9.2).
func TestRightWrong(t *testing.T) {
	all := make([]uint64, wordCount(66, 65538))
	wrong := func(n, c int) {
		for k := range 100 {
			if Right(api.Mem{T: n, C: c, Word: all[:k]}) {
				t.Fatal("right:", n, c, k)
			}
		}
		k := wordCount(n, c)
		if k >= 0 && k <= len(all) && Right(api.Mem{T: n, C: c, Word: all[:k]}) {
			t.Fatal("right:", n, c, k)
		}
	}
	for _, n := range noThreads {
		for _, c := range append(slices.Clone(records), noRecords...) {
			wrong(n, c)
		}
	}
	for _, c := range noRecords {
		for n := 1; n <= 64; n++ {
			wrong(n, c)
		}
	}
	if Right(api.Mem{}) || Right(api.Mem{Word: all[:8]}) {
		t.Error("a memory for no thread is right")
	}
}

// TestPlaces: no two places are the same, each is one of the memory's words, and
// each word has its place (P9.3).
func TestPlaces(t *testing.T) {
	shared := []int{api.CHead, api.CTop, api.CCount, api.CEpoch, api.CLimbo, api.CLimbo + 1, api.CLimbo + 2, api.CSealed}
	for n := 1; n <= 64; n++ {
		counts := []int{0, 1, 2, 3, 20}
		if slices.Contains(threads, n) {
			counts = records
		}
		for _, c := range counts {
			m, _ := New(n, c)
			taken := make([]bool, len(m.Word))
			take := func(p int) {
				if p < 0 || p >= len(taken) || taken[p] {
					t.Fatalf("%d threads, %d records: place %d is outside, or another's", n, c, p)
				}
				taken[p] = true
			}
			for _, p := range shared {
				take(p)
			}
			for i := range n {
				take(Pin(i))
			}
			for r := 1; r <= c; r++ {
				for f := range 8 {
					take(Field(n, r, f))
				}
			}
			if p := slices.Index(taken, false); p >= 0 {
				t.Errorf("%d threads, %d records: place %d is nobody's", n, c, p)
			}
		}
	}
}

// TestNextPlaces: what follows a record is no other one's, nor the head (P9.3).
func TestNextPlaces(t *testing.T) {
	for _, n := range threads {
		last := Next(n, 0)
		for r := 1; r <= 65536; r++ {
			p := Next(n, r)
			if p <= last || p != Field(n, r, 0) {
				t.Fatal(n, r, p, last)
			}
			last = p
		}
	}
}

// TestOutside: of numbers that are no thread's, and no record's, nothing is
// promised, but that each call ends, and none panics.
func TestOutside(t *testing.T) {
	for _, n := range append(slices.Clone(noThreads), threads...) {
		Pin(n)
		for _, r := range append(slices.Clone(noRecords), records...) {
			Next(n, r)
			for _, f := range []int{math.MinInt, -1, 0, 7, 8, math.MaxInt} {
				Field(n, r, f)
			}
		}
	}
}
