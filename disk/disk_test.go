package disk

import (
	"bytes"
	"math"
	"slices"
	"testing"

	"weald/api"
)

// counts are how many streams a row may have: few, and the most.
var counts = []int{1, 2, 3, 7, 63, 64}

// outside are numbers that no row and no stream of a disk has.
var outside = []int{
	math.MinInt, math.MinInt + 1, math.MinInt32, -65, -64, -2, -1, 64, 65, 66, 128, 256, 1 << 32, math.MaxInt - 1, math.MaxInt,
}

// roots are a disk's: small ones, and those at the bounds of words.
var roots = []uint64{
	0, 1, 2, 3, 4, 5, 255, 256, math.MaxInt32, math.MaxInt32 + 1, math.MaxUint32, math.MaxUint32 + 1,
	math.MaxInt64 - 1, math.MaxInt64, math.MaxInt64 + 1, math.MaxInt64 + 2, math.MaxUint64 - 1, math.MaxUint64,
}

// mixed are n bytes of all kinds, others for another seed.
func mixed(n int, seed uint32) []byte {
	b := make([]byte, n)
	for i := range b {
		seed = seed*1664525 + 1013904223
		b[i] = byte(seed >> 24)
	}
	return b
}

// sample is a right disk, each of whose streams has other bytes, and more or
// less of them synced; there is room behind them.
func sample(t int, root uint64) api.Disk {
	d := api.Disk{Root: root}
	for row := range d.Rows {
		l := make([]api.Stream, t, t+3)
		for i := range l {
			n := (row*t + i) % 11
			l[i] = api.Stream{Data: mixed(n+9, uint32(row*100+i))[:n], Synced: (n + i) % (n + 1)}
		}
		d.Rows[row] = l
	}
	return d
}

// copied is the same disk, in memory of its own.
func copied(d api.Disk) api.Disk {
	for row := range d.Rows {
		d.Rows[row] = slices.Clone(d.Rows[row])
		for i := range d.Rows[row] {
			d.Rows[row][i].Data = bytes.Clone(d.Rows[row][i].Data)
		}
	}
	return d
}

// same: have two streams the same bytes, as many of them synced?
func same(x, y api.Stream) bool { return bytes.Equal(x.Data, y.Data) && x.Synced == y.Synced }

// check: is this disk that one?
func check(t *testing.T, what string, d, want api.Disk) {
	t.Helper()
	if d.Root != want.Root {
		t.Errorf("%s: the root is %d, not %d", what, d.Root, want.Root)
	}
	for row := range want.Rows {
		if len(d.Rows[row]) != len(want.Rows[row]) {
			t.Errorf("%s: row %d has %d streams, not %d", what, row, len(d.Rows[row]), len(want.Rows[row]))
			continue
		}
		for i, s := range want.Rows[row] {
			if !same(d.Rows[row][i], s) {
				t.Errorf("%s: stream %d of row %d is %v, not %v", what, i, row, d.Rows[row][i], s)
			}
		}
	}
}

// code: is this the code?
func code(t *testing.T, what string, e, want api.Errno) {
	t.Helper()
	if e != want {
		t.Errorf("%s: code %d, not %d", what, e, want)
	}
}

// TestExample: that of the chapter (P7.1).
func TestExample(t *testing.T) {
	d, e := New(2)
	code(t, "new", e, api.OK)
	check(t, "new", d, api.Disk{Rows: [2][]api.Stream{make([]api.Stream, 2), make([]api.Stream, 2)}})
}

// TestNew: of all counts around those that may be, and of those far off (P7.1).
func TestNew(t *testing.T) {
	for n := 1; n <= 64; n++ {
		d, e := New(n)
		code(t, "new", e, api.OK)
		check(t, "new", d, api.Disk{Rows: [2][]api.Stream{make([]api.Stream, n), make([]api.Stream, n)}})
		if !Right(d) || Row(d) != 0 {
			t.Error("a new disk isn't right:", n)
		}
	}
	for _, n := range []int{math.MinInt, math.MinInt32, -64, -2, -1, 0, 65, 66, 128, 256, 257, 1<<32 + 1, math.MaxInt - 1, math.MaxInt} {
		d, e := New(n)
		code(t, "new", e, api.ErrArg)
		if d.Root != 0 || d.Rows[0] != nil || d.Rows[1] != nil {
			t.Error("beside a code there is a disk:", n)
		}
	}
}

// TestNewApart: the rows of a new disk are two, and those of two disks four
// (P7.1, P7.4).
func TestNewApart(t *testing.T) {
	d, _ := New(3)
	other, _ := New(3)
	got, _ := Append(d, 1, 2, []byte("abc"))
	d.Rows[0][1].Data = []byte("x")
	if len(d.Rows[1][1].Data) != 0 || len(other.Rows[0][1].Data) != 0 || len(got.Rows[0][2].Data) != 0 {
		t.Error("rows share their streams")
	}
}

// TestRight: a disk is right, if both rows have as many streams, from 1 to 64,
// and each of them is right (P7.1).
func TestRight(t *testing.T) {
	for first := range 70 {
		for second := range 70 {
			d := api.Disk{Rows: [2][]api.Stream{make([]api.Stream, first), make([]api.Stream, second)}}
			if want := first == second && first >= 1 && first <= 64; Right(d) != want {
				t.Errorf("of %d and %d streams: not %v", first, second, want)
			}
		}
	}
	many := make([]api.Stream, 65536)
	for _, d := range []api.Disk{
		{}, {Root: 1}, {Rows: [2][]api.Stream{{}, {}}}, {Rows: [2][]api.Stream{{{}}, nil}}, {Rows: [2][]api.Stream{nil, {{}}}},
		{Rows: [2][]api.Stream{many, many}}, {Rows: [2][]api.Stream{many[:257], many[:257]}},
	} {
		if Right(d) {
			t.Error("right:", len(d.Rows[0]), len(d.Rows[1]))
		}
	}
}

// TestRightStreams: one stream that isn't right, at whichever place, and a disk
// isn't; its root is any (P7.1).
func TestRightStreams(t *testing.T) {
	for _, n := range counts {
		for _, root := range roots {
			if !Right(sample(n, root)) {
				t.Error("not right:", n, root)
			}
		}
		for row := range 2 {
			for i := range n {
				d := sample(n, 1)
				s := &d.Rows[row][i]
				size := len(s.Data)
				for _, synced := range []int{math.MinInt, -size, -1, 0, size, size + 1, size + 5, math.MaxInt} {
					s.Synced = synced
					if want := synced >= 0 && synced <= size; Right(d) != want {
						t.Errorf("%d of %d bytes synced, stream %d of row %d: not %v", synced, size, i, row, want)
					}
				}
			}
		}
	}
}

// TestRow: the root's lowest bit (P7.1).
func TestRow(t *testing.T) {
	for _, root := range roots {
		for _, n := range counts {
			if row := Row(sample(n, root)); row != int(root&1) {
				t.Errorf("root %d: row %d", root, row)
			}
		}
	}
}

// TestAppend: bytes stand behind those of one stream, as much of which is
// synced as was, and nothing else is turned (P7.2, P7.4).
func TestAppend(t *testing.T) {
	for _, n := range counts {
		for row := range 2 {
			for i := range n {
				for _, b := range [][]byte{nil, {}, {0}, []byte("ab"), mixed(1000, 1)} {
					d := sample(n, uint64(n+i))
					want := copied(d)
					s := &want.Rows[row][i]
					s.Data = append(s.Data, b...)
					got, e := Append(d, row, i, b)
					code(t, "append", e, api.OK)
					check(t, "append", got, want)
				}
			}
		}
	}
}

// TestSync: all of one stream is synced, and nothing else is turned (P7.2,
// P7.4).
func TestSync(t *testing.T) {
	for _, n := range counts {
		for row := range 2 {
			for i := range n {
				d := sample(n, uint64(n+i))
				want := copied(d)
				want.Rows[row][i].Synced = len(want.Rows[row][i].Data)
				got, e := Sync(d, row, i)
				code(t, "sync", e, api.OK)
				check(t, "sync", got, want)
			}
		}
	}
}

// TestRead: a stream's bytes, synced or not (P7.2).
func TestRead(t *testing.T) {
	for _, n := range counts {
		d := sample(n, 1)
		for row := range 2 {
			for i := range n {
				b, e := Read(d, row, i)
				code(t, "read", e, api.OK)
				if !bytes.Equal(b, d.Rows[row][i].Data) {
					t.Errorf("stream %d of row %d: %v", i, row, b)
				}
			}
		}
		check(t, "read", d, sample(n, 1))
	}
	d, _ := New(1)
	if b, e := Read(d, 0, 0); len(b) != 0 || e != api.OK {
		t.Error("of none:", b, e)
	}
}

// TestClear: a row's streams are empty, nothing of them synced; the other row
// is as it was (P7.2, P7.4).
func TestClear(t *testing.T) {
	for _, n := range counts {
		for row := range 2 {
			d := sample(n, uint64(n))
			want := copied(d)
			clear(want.Rows[row])
			got, e := Clear(d, row)
			code(t, "clear", e, api.OK)
			check(t, "clear", got, want)
			again, e := Clear(got, row)
			code(t, "clear again", e, api.OK)
			check(t, "clear again", again, want)
		}
	}
}

// refused: are all calls of a place refused, the disk as it was?
func refused(t *testing.T, d api.Disk, row, i int) {
	t.Helper()
	was := copied(d)
	got, e := Append(d, row, i, []byte("ab"))
	code(t, "append", e, api.ErrArg)
	check(t, "append", got, was)
	got, e = Append(d, row, i, nil)
	code(t, "append of none", e, api.ErrArg)
	check(t, "append of none", got, was)
	got, e = Sync(d, row, i)
	code(t, "sync", e, api.ErrArg)
	check(t, "sync", got, was)
	b, e := Read(d, row, i)
	code(t, "read", e, api.ErrArg)
	if b != nil {
		t.Error("beside a code there are bytes:", row, i, b)
	}
	check(t, "all", d, was)
}

// TestNoRow: what is asked of a row that isn't there is refused (P7.2).
func TestNoRow(t *testing.T) {
	for _, n := range counts {
		for _, row := range append(slices.Clone(outside), 2, 3, 4, n+2) {
			d := sample(n, 1)
			for _, i := range append(slices.Clone(outside), 0, 1, n-1, n) {
				refused(t, d, row, i)
			}
			got, e := Clear(d, row)
			code(t, "clear", e, api.ErrArg)
			check(t, "clear", got, sample(n, 1))
		}
	}
}

// TestNoStream: what is asked of a stream that isn't there is refused (P7.2).
func TestNoStream(t *testing.T) {
	for _, n := range counts {
		for row := range 2 {
			for _, i := range append(slices.Clone(outside), n, n+1, 2*n-1+64, -n) {
				refused(t, sample(n, 0), row, i)
			}
		}
	}
}

// TestSetRoot: the root is another one, and nothing else is turned (P7.2).
func TestSetRoot(t *testing.T) {
	for _, n := range counts {
		for _, from := range roots {
			for _, to := range roots {
				d := sample(n, from)
				check(t, "root", SetRoot(d, to), sample(n, to))
				check(t, "as it was", d, sample(n, from))
			}
		}
	}
}

// slowCrash is the chapter's word of a crash: stream by stream, in order, as
// many bytes more as the number at its place says, or none.
func slowCrash(d api.Disk, more []int) api.Disk {
	d = copied(d)
	place := 0
	for row := range d.Rows {
		for i := range d.Rows[row] {
			s := &d.Rows[row][i]
			for k := 0; place < len(more) && k < more[place] && s.Synced < len(s.Data); k++ {
				s.Synced++
			}
			s.Data = s.Data[:s.Synced]
			place++
		}
	}
	return d
}

// TestCrash: the number at each place is that of its stream, the first row's
// ahead of the second's; without one there is 0 (P7.3).
func TestCrash(t *testing.T) {
	for _, n := range counts {
		all := make([]int, 2*n+5)
		for i := range all {
			all[i] = i*i%13 - 2
		}
		for size := range all {
			d := sample(n, uint64(size))
			got := Crash(d, all[:size:size])
			check(t, "crash", got, slowCrash(d, all[:size]))
			check(t, "as it was", d, sample(n, uint64(size)))
			if !Right(got) {
				t.Error("not right:", n, size)
			}
		}
	}
}

// TestCrashOne: one number turns the stream at its place alone (P7.3, P7.4).
func TestCrashOne(t *testing.T) {
	d, _ := New(3)
	for row := range 2 {
		for i := range 3 {
			d, _ = Append(d, row, i, []byte("ab"))
			d, _ = Sync(d, row, i)
			d, _ = Append(d, row, i, []byte("cd"))
		}
	}
	for place := range 6 {
		more := make([]int, place+1)
		more[place] = 1
		got := Crash(d, more)
		for at := range 6 {
			want := "ab"
			if at == place {
				want = "abc"
			}
			if s := got.Rows[at/3][at%3]; string(s.Data) != want || s.Synced != len(want) {
				t.Errorf("a number at place %d: stream %d is %q, %d synced", place, at, s.Data, s.Synced)
			}
		}
	}
}

// TestCrashBounds: no number, or 0, or below, and nothing more stays; of a great
// one all; the root stays, whatever it is (P7.3).
func TestCrashBounds(t *testing.T) {
	for _, n := range counts {
		for _, root := range roots {
			d := sample(n, root)
			for _, more := range []int{math.MinInt, -1, 0} {
				want := slowCrash(d, nil)
				check(t, "nothing more", Crash(d, slices.Repeat([]int{more}, 2*n)), want)
				check(t, "no number", Crash(d, nil), want)
				check(t, "no number", Crash(d, []int{}), want)
			}
			for _, more := range []int{20, 65536, math.MaxInt - 1, math.MaxInt} {
				want := slowCrash(d, slices.Repeat([]int{20}, 2*n))
				check(t, "all", Crash(d, slices.Repeat([]int{more}, 2*n)), want)
				check(t, "too many numbers", Crash(d, slices.Repeat([]int{more}, 2*n+9)), want)
			}
		}
	}
}

// TestCrashAgain: what a crash leaves is synced, so that the next one leaves it
// (P7.3).
func TestCrashAgain(t *testing.T) {
	for _, n := range counts {
		more := slices.Repeat([]int{3, 0, 1}, n)
		once := Crash(sample(n, 7), more)
		check(t, "again", Crash(once, nil), once)
		check(t, "again", Crash(once, more), once)
	}
}

// TestRows: through rows of all calls each stream is what its own calls made of
// it, as texts that are told one by one say (P7.2 to P7.4).
func TestRows(t *testing.T) {
	for seed := range uint32(150) {
		n := int(seed%5) + 1
		d, _ := New(n)
		want := copied(d)
		for k, x := range mixed(150, seed) {
			row, i := int(x>>3)%2, int(x>>4)%n
			s := &want.Rows[row][i]
			switch x % 8 {
			case 0, 1, 2, 3:
				b := mixed(int(x>>2)%9, uint32(k))
				d, _ = Append(d, row, i, b)
				s.Data = slices.Concat(s.Data, b)
			case 4, 5:
				d, _ = Sync(d, row, i)
				s.Synced = len(s.Data)
			case 6:
				d = SetRoot(d, d.Root+uint64(x))
				want.Root += uint64(x)
			case 7:
				if x > 230 {
					d, _ = Clear(d, row)
					clear(want.Rows[row])
				} else if x > 190 {
					more := []int{int(x) % 3, 2, 0, 1, -1, 5}
					d = Crash(d, more)
					want = slowCrash(want, more)
				}
			}
			check(t, "in a row", d, want)
			if !Right(d) || Row(d) != int(want.Root%2) {
				t.Fatal("not right:", seed, k)
			}
			if b, e := Read(d, row, i); e != api.OK || !bytes.Equal(b, want.Rows[row][i].Data) {
				t.Fatal("read:", seed, k, b, e)
			}
		}
	}
}

// whole is a disk with all of its room: what stands behind its rows, and
// behind its streams' bytes.
func whole(d api.Disk) api.Disk {
	for row := range d.Rows {
		d.Rows[row] = slices.Clone(d.Rows[row][:cap(d.Rows[row])])
		for i, s := range d.Rows[row] {
			d.Rows[row][i].Data = s.Data[:cap(s.Data)]
		}
	}
	return copied(d)
}

// TestUnwritten: what is handed in is as it was, its room too (R3), and a
// second call tells the same (R4).
func TestUnwritten(t *testing.T) {
	for _, n := range counts {
		d := sample(n, 3)
		was, room := copied(d), whole(d)
		b := mixed(40, 2)[:20]
		more := []int{1, -5, 7}
		for row := range 2 {
			for range 2 {
				x, _ := Append(d, row, n-1, b)
				if !bytes.Equal(x.Rows[row][n-1].Data, slices.Concat(was.Rows[row][n-1].Data, mixed(40, 2)[:20])) {
					t.Error("another answer:", n, row)
				}
				Sync(d, row, n-1)
				Clear(d, row)
				SetRoot(d, 9)
				check(t, "crash", Crash(d, more), slowCrash(was, more))
			}
		}
		check(t, "what was handed in", d, was)
		check(t, "its room", whole(d), room)
		if !bytes.Equal(b[:40], mixed(40, 2)) || !slices.Equal(more, []int{1, -5, 7}) {
			t.Error("bytes, or numbers, that were handed in are turned:", n)
		}
	}
}

// TestNotKept: bytes that were appended are the disk's own, and those that were
// read their reader's: what is laid in their place turns no disk (R3).
func TestNotKept(t *testing.T) {
	d, _ := New(2)
	b := []byte("abc")
	d, _ = Append(d, 1, 1, b)
	clear(b)
	read, _ := Read(d, 1, 1)
	clear(read)
	if again, _ := Read(d, 1, 1); string(again) != "abc" {
		t.Errorf("turned: %q", again)
	}
	one, _ := Read(d, 1, 1)
	d, _ = Append(d, 1, 1, []byte("def"))
	if one = append(one, "xyz"...); string(one) != "abcxyz" {
		t.Errorf("what was read is turned: %q", one)
	}
	if again, _ := Read(d, 1, 1); string(again) != "abcdef" {
		t.Errorf("turned: %q", again)
	}
}

// TestBranches: of one disk, and of what any call makes of it, each call goes
// its own way: none turns what another one told (R3).
func TestBranches(t *testing.T) {
	for _, n := range counts {
		root := sample(n, 4)
		appended, _ := Append(root, 0, n-1, []byte("z"))
		nothing, _ := Append(root, 1, 0, nil)
		synced, _ := Sync(root, 1, n-1)
		cleared, _ := Clear(root, 0)
		for _, d := range []api.Disk{root, appended, nothing, synced, cleared, SetRoot(root, 5), Crash(root, nil), Crash(root, []int{1, 1})} {
			was := copied(d)
			for row := range 2 {
				for i := range n {
					x, _ := Append(d, row, i, []byte("xxx"))
					y, _ := Append(d, row, i, []byte("yyyyy"))
					Append(x, row, i, mixed(99, 1))
					Append(Crash(x, nil), row, i, []byte("www"))
					Sync(x, row, i)
					Clear(y, row)
					wantX, wantY := copied(was), copied(was)
					wantX.Rows[row][i].Data = append(wantX.Rows[row][i].Data, "xxx"...)
					wantY.Rows[row][i].Data = append(wantY.Rows[row][i].Data, "yyyyy"...)
					check(t, "first", x, wantX)
					check(t, "second", y, wantY)
				}
			}
			check(t, "itself", d, was)
		}
	}
}

// TestWrong: of disks that aren't right nothing is promised, but that each call
// ends, and none panics.
func TestWrong(t *testing.T) {
	long := make([]api.Stream, 70)
	long[69] = api.Stream{Data: []byte("abc"), Synced: 9}
	bad := []api.Stream{{Synced: -1}, {Data: []byte("ab"), Synced: math.MinInt}, {Synced: math.MaxInt}}
	for _, d := range []api.Disk{
		{}, {Root: math.MaxUint64}, {Rows: [2][]api.Stream{nil, bad}}, {Rows: [2][]api.Stream{bad, nil}},
		{Rows: [2][]api.Stream{bad, long}}, {Rows: [2][]api.Stream{long, bad[:1]}}, {Rows: [2][]api.Stream{long, long}},
	} {
		Row(d)
		SetRoot(d, 1)
		for _, more := range [][]int{nil, {math.MaxInt}, {1, 2, 3}, slices.Repeat([]int{math.MinInt}, 200)} {
			Crash(d, more)
		}
		for row := -1; row < 3; row++ {
			Clear(d, row)
			for _, i := range append(slices.Clone(outside), 0, 1, 2, 3, 69, 70) {
				Append(d, row, i, []byte("ab"))
				Sync(d, row, i)
				Read(d, row, i)
			}
		}
	}
}
