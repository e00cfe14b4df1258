package stream

import (
	"bytes"
	"math"
	"slices"
	"testing"

	"weald/api"
)

// lengths are those of streams' bytes: none, a few, and many.
var lengths = []int{0, 1, 2, 3, 7, 8, 9, 31, 32, 33, 255, 256, 257, 1000, 65536}

// mores are how many bytes more stay: below 0, none, few, many, and what makes
// a sum with any other number go round.
var mores = []int{
	math.MinInt, math.MinInt + 1, math.MinInt32, -65536, -256, -3, -2, -1, 0, 1, 2, 3, 7, 8, 9, 31, 32, 33,
	255, 256, 257, 65535, 65536, 65537, math.MaxInt32, math.MaxUint32, math.MaxInt - 65536, math.MaxInt - 1, math.MaxInt,
}

// mixed are n bytes of all kinds, others for another seed.
func mixed(n int, seed uint32) []byte {
	b := make([]byte, n)
	for i := range b {
		seed = seed*1664525 + 1013904223
		b[i] = byte(seed >> 24)
	}
	return b
}

// roomy are bytes with room behind them, and all of that room.
func roomy(n int, seed uint32) ([]byte, []byte) {
	room := mixed(n+40, seed)
	return room[:n], room
}

// places are all numbers of bytes up to n, or of a great n those near the
// bounds.
func places(n int) []int {
	var all []int
	for i := range n + 1 {
		if n < 300 || i < 3 || i > n-3 || i == n/2 {
			all = append(all, i)
		}
	}
	return all
}

// check: is this a stream of these bytes, so many of them synced, and right?
func check(t *testing.T, what string, s api.Stream, data []byte, synced int) {
	t.Helper()
	if !bytes.Equal(s.Data, data) || s.Synced != synced || !Right(s) {
		t.Errorf("%s: %d bytes, %d synced, right %v; not %d, %d", what, len(s.Data), s.Synced, Right(s), len(data), synced)
	}
}

// slowCut is the chapter's word of a cut: byte by byte those that are synced,
// and then more of them as long as there are any.
func slowCut(s api.Stream, more int) []byte {
	var kept []byte
	for i, x := range s.Data {
		if i < s.Synced {
			kept = append(kept, x)
		} else if more > 0 {
			kept = append(kept, x)
			more--
		}
	}
	return kept
}

// TestExample: that of the chapter (P6.1 and P6.2).
func TestExample(t *testing.T) {
	s := Append(Sync(Append(api.Stream{}, []byte("ab"))), []byte("cd"))
	check(t, "appended", s, []byte("abcd"), 2)
	check(t, "cut", Cut(s, 1), []byte("abc"), 3)
}

// TestRight: a stream is right, if what is synced is from none to all of its
// bytes (P6.1).
func TestRight(t *testing.T) {
	for _, n := range lengths {
		data, _ := roomy(n, 1)
		for _, synced := range append(slices.Clone(mores), n-1, n, n+1, n+40, n+41, -n, -n-1) {
			want := synced >= 0 && synced <= n
			for _, d := range [][]byte{data, data[:n:n]} {
				if Right(api.Stream{Data: d, Synced: synced}) != want {
					t.Errorf("%d of %d bytes: not %v", synced, n, want)
				}
			}
		}
	}
	for _, x := range []struct {
		s    api.Stream
		want bool
	}{
		{api.Stream{}, true}, {api.Stream{Data: []byte{}}, true},
		{api.Stream{Synced: 1}, false}, {api.Stream{Synced: -1}, false}, {api.Stream{Data: []byte{}, Synced: 1}, false},
		{api.Stream{Data: []byte("a"), Synced: -1}, false}, {api.Stream{Data: []byte("a")}, true},
		{api.Stream{Data: []byte("a"), Synced: 1}, true}, {api.Stream{Data: []byte("a"), Synced: 2}, false},
	} {
		if Right(x.s) != x.want {
			t.Errorf("%+v: not %v", x.s, x.want)
		}
	}
}

// TestAppend: bytes stand behind those that are there, and what is synced is as
// it was (P6.1).
func TestAppend(t *testing.T) {
	for _, n := range lengths {
		for _, m := range lengths {
			data, b := mixed(n, 1), mixed(m, 2)
			for _, synced := range []int{0, n / 2, n} {
				s := Append(api.Stream{Data: data, Synced: synced}, b)
				check(t, "appended", s, slices.Concat(data, b), synced)
			}
		}
	}
}

// TestAppendNothing: with no byte behind it a stream is as it was (P6.1).
func TestAppendNothing(t *testing.T) {
	for _, b := range [][]byte{nil, {}, mixed(9, 1)[:0]} {
		check(t, "of none", Append(api.Stream{}, b), nil, 0)
		check(t, "of some", Append(api.Stream{Data: []byte("abc"), Synced: 1}, b), []byte("abc"), 1)
	}
}

// TestAppendMany: bytes that are appended one by one stand in their order
// (P6.1).
func TestAppendMany(t *testing.T) {
	all := mixed(3000, 3)
	var s api.Stream
	for i := range all {
		s = Append(s, all[i:i+1])
		check(t, "one by one", s, all[:i+1], 0)
	}
	s = Append(Sync(s), s.Data)
	check(t, "its own bytes", s, slices.Concat(all, all), len(all))
}

// TestSync: all bytes are synced, however many were, and none is turned (P6.1).
func TestSync(t *testing.T) {
	check(t, "of none", Sync(api.Stream{}), nil, 0)
	for _, n := range lengths {
		data := mixed(n, 4)
		for _, synced := range places(n) {
			s := Sync(api.Stream{Data: data, Synced: synced})
			check(t, "synced", s, data, n)
			check(t, "synced twice", Sync(s), data, n)
		}
	}
}

// TestCut: of streams of all lengths, synced up to each place, with more bytes
// of any number (P6.2).
func TestCut(t *testing.T) {
	for _, n := range lengths {
		data := mixed(n, 5)
		for _, synced := range places(n) {
			s := api.Stream{Data: data, Synced: synced}
			for _, more := range append(slices.Clone(mores), n, n-synced-1, n-synced, n-synced+1) {
				want := slowCut(s, min(more, n))
				check(t, "cut", Cut(s, more), want, len(want))
			}
		}
	}
}

// TestCutBounds: below 0 no byte more stays, of fewer bytes all; what is synced
// counts all that stays (P6.2).
func TestCutBounds(t *testing.T) {
	s := api.Stream{Data: []byte("abcdef"), Synced: 2}
	for _, x := range []struct {
		more int
		want string
	}{
		{math.MinInt, "ab"}, {math.MinInt + 2, "ab"}, {-3, "ab"}, {-2, "ab"}, {-1, "ab"}, {0, "ab"},
		{1, "abc"}, {2, "abcd"}, {3, "abcde"}, {4, "abcdef"}, {5, "abcdef"}, {6, "abcdef"}, {7, "abcdef"},
		{math.MaxInt - 2, "abcdef"}, {math.MaxInt - 1, "abcdef"}, {math.MaxInt, "abcdef"},
	} {
		check(t, x.want, Cut(s, x.more), []byte(x.want), len(x.want))
	}
	for _, more := range mores {
		check(t, "of none", Cut(api.Stream{}, more), nil, 0)
		check(t, "all synced", Cut(Sync(s), more), s.Data, 6)
	}
}

// TestCutRoom: room behind a stream's bytes is none of them (P6.2).
func TestCutRoom(t *testing.T) {
	data, _ := roomy(10, 6)
	for _, more := range []int{0, 3, 10, 11, 20, math.MaxInt} {
		s := api.Stream{Data: data, Synced: 4}
		want := data[:min(4+min(more, 6), 10)]
		check(t, "with room", Cut(s, more), want, len(want))
	}
}

// TestCutAgain: what a crash leaves is synced, so that the next one leaves it
// (P6.2).
func TestCutAgain(t *testing.T) {
	s := api.Stream{Data: mixed(50, 7), Synced: 10}
	for _, more := range mores {
		once := Cut(s, more)
		for _, again := range mores {
			check(t, "twice", Cut(once, again), once.Data, len(once.Data))
		}
	}
	check(t, "gone on with", Append(Cut(s, 5), []byte("xy")), slices.Concat(s.Data[:15], []byte("xy")), 15)
}

// TestStays: through rows of all calls, what is synced once stays, and a cut
// leaves a beginning (P6.3), as bytes that are told one by one say.
func TestStays(t *testing.T) {
	for seed := range uint32(200) {
		var s api.Stream
		var data, stays []byte
		for i, x := range mixed(120, seed) {
			switch x % 4 {
			case 0, 1:
				b := mixed(int(x/4)%20, uint32(i))
				s = Append(s, b)
				data = slices.Concat(data, b)
			case 2:
				s = Sync(s)
				stays = data
			case 3:
				more := int(x/4)%30 - 5
				s = Cut(s, more)
				data = slices.Clone(data[:min(len(stays)+max(more, 0), len(data))])
				stays = data
			}
			check(t, "in a row", s, data, len(stays))
			if !bytes.HasPrefix(s.Data, stays) {
				t.Fatal("what was synced is gone:", seed, i)
			}
		}
	}
}

// TestUnwritten: what is handed in is as it was, its room too (R3), and a
// second call tells the same (R4).
func TestUnwritten(t *testing.T) {
	for _, n := range lengths {
		data, room := roomy(n, 8)
		b, more := roomy(20, 9)
		was, wasMore := slices.Clone(room), slices.Clone(more)
		s := api.Stream{Data: data, Synced: n / 2}
		for range 2 {
			check(t, "appended", Append(s, b), slices.Concat(was[:n], wasMore[:20]), n/2)
			check(t, "synced", Sync(s), was[:n], n)
			check(t, "cut", Cut(s, 1), was[:min(n/2+1, n)], min(n/2+1, n))
		}
		if !bytes.Equal(room, was) || !bytes.Equal(more, wasMore) || len(s.Data) != n || s.Synced != n/2 {
			t.Error("what was handed in is turned:", n)
		}
	}
}

// TestNotKept: bytes that were appended are the stream's own: what is laid in
// their place later turns no stream (R3).
func TestNotKept(t *testing.T) {
	b := make([]byte, 8)
	var s api.Stream
	var want []byte
	for i := range 40 {
		copy(b, mixed(8, uint32(i)))
		want = append(want, b[:i%9]...)
		s = Append(s, b[:i%9])
		clear(b)
		check(t, "not kept", s, want, 0)
	}
}

// TestBranches: of one stream, and of what any call makes of it, each call goes
// its own way: none turns what another one told (R3).
func TestBranches(t *testing.T) {
	for _, n := range lengths {
		data, _ := roomy(n, 10)
		half := n / 2
		root := api.Stream{Data: data, Synced: half}
		for _, s := range []api.Stream{root, Sync(root), Cut(root, 0), Cut(root, 1), Cut(root, n), Append(root, nil), Append(root, []byte("z")), Append(root, mixed(33, 1))} {
			was := slices.Clone(s.Data)
			x, y := Append(s, []byte("xxx")), Append(s, []byte("yyyyy"))
			long := Append(x, mixed(100, 11))
			other := Append(x, mixed(90, 12))
			less := Append(Cut(x, 1), []byte("www"))
			check(t, "first", x, append(slices.Clone(was), "xxx"...), s.Synced)
			check(t, "second", y, append(slices.Clone(was), "yyyyy"...), s.Synced)
			check(t, "longer", long, slices.Concat(was, []byte("xxx"), mixed(100, 11)), s.Synced)
			check(t, "other", other, slices.Concat(was, []byte("xxx"), mixed(90, 12)), s.Synced)
			check(t, "less", less, slices.Concat(slowCut(x, 1), []byte("www")), len(slowCut(x, 1)))
			check(t, "itself", s, was, s.Synced)
		}
		check(t, "root", root, data, half)
	}
}

// TestEnd: also the language's own append, to a stream's bytes, is laid where
// no other stream sees it (R3).
func TestEnd(t *testing.T) {
	data, room := roomy(30, 13)
	was := slices.Clone(room)
	s := api.Stream{Data: data, Synced: 10}
	for _, x := range []api.Stream{Sync(s), Cut(s, 0), Cut(s, 7), Cut(s, 99), Append(s, nil), Append(s, []byte("abc"))} {
		one, two := append(x.Data, "one"...), append(x.Data, "two"...)
		if string(one[len(x.Data):]) != "one" || string(two[len(x.Data):]) != "two" || !bytes.Equal(room, was) {
			t.Error("shared behind its end:", len(x.Data))
		}
	}
}

// TestWrong: of streams that aren't right nothing is promised, but that each
// call ends, and none panics.
func TestWrong(t *testing.T) {
	for _, data := range [][]byte{nil, {}, mixed(5, 1), mixed(300, 2)} {
		for _, synced := range mores {
			s := api.Stream{Data: data, Synced: synced}
			Append(s, []byte("ab"))
			Sync(s)
			for _, more := range mores {
				Cut(s, more)
			}
		}
	}
}
