package frame

import (
	"bytes"
	"hash/crc32"
	"slices"
	"testing"

	"weald/api"
)

// known are bytes and their frames, told by others.
var known = []struct {
	body  string
	frame []byte
}{
	{"a", []byte{1, 0, 0x43, 0xbe, 0xb7, 0xe8, 'a'}},
	{"abc", []byte{3, 0, 0xc2, 0x41, 0x24, 0x35, 'a', 'b', 'c'}},
	{"123456789", []byte("\x09\x00\x26\x39\xf4\xcb123456789")},
	{"\x00", []byte{1, 0, 0x8d, 0xef, 0x02, 0xd2, 0}},
	{"\xff\xff\xff\xff", []byte{4, 0, 0xff, 0xff, 0xff, 0xff, 0xff, 0xff, 0xff, 0xff}},
}

// lengths are those of bytes that have a frame: short ones, those where a count
// needs its upper byte, and the greatest.
var lengths = []int{1, 2, 3, 5, 6, 7, 8, 127, 128, 254, 255, 256, 257, 511, 512, 4096, 32767, 32768, 65279, 65280, 65534, 65535}

// mixed are n bytes of all kinds, others for another seed.
func mixed(n int, seed uint32) []byte {
	b := make([]byte, n)
	for i := range b {
		seed = seed*1664525 + 1013904223
		b[i] = byte(seed >> 24)
	}
	return b
}

// headed are bytes behind a head of a count and a sum, whatever these are.
func headed(count int, sum uint32, b []byte) []byte {
	head := []byte{byte(count), byte(count >> 8), byte(sum), byte(sum >> 8), byte(sum >> 16), byte(sum >> 24)}
	return append(head, b...)
}

// slow is the chapter's word of a frame, with the check of Go's library.
func slow(b []byte) []byte { return headed(len(b), crc32.ChecksumIEEE(b), b) }

// slowSplit is the chapter's Split: at each place the frame that its bytes
// would have, if it is the one that is there.
func slowSplit(s []byte) ([][]byte, int) {
	var all [][]byte
	at := 0
	for len(s)-at > 6 {
		n := int(s[at]) + 256*int(s[at+1])
		if n == 0 || at+6+n > len(s) || !bytes.HasPrefix(s[at:], slow(s[at+6:at+6+n])) {
			break
		}
		all = append(all, s[at+6:at+6+n])
		at += 6 + n
	}
	return all, at
}

// checkSplit: is this what Split tells?
func checkSplit(t *testing.T, s []byte, want [][]byte, whole int) {
	t.Helper()
	all, n := Split(s)
	if n != whole || !slices.EqualFunc(all, want, bytes.Equal) {
		t.Errorf("of %d bytes: %d frames of %d bytes, not %d of %d", len(s), len(all), n, len(want), whole)
	}
}

// some are frames of a few bodies, one behind the other, and the bodies.
func some() ([]byte, [][]byte) {
	bodies := [][]byte{[]byte("a"), mixed(20, 1), {0}, mixed(300, 2), []byte("a"), mixed(7, 3)}
	var s []byte
	for _, b := range bodies {
		s = append(s, slow(b)...)
	}
	return s, bodies
}

// TestExample: that of the chapter (P4.1).
func TestExample(t *testing.T) {
	f, e := Put([]byte("a"))
	if want := []byte{0x01, 0x00, 0x43, 0xbe, 0xb7, 0xe8, 0x61}; !bytes.Equal(f, want) || e != api.OK {
		t.Error(f, e)
	}
}

// TestKnown: frames that are told by others (P4.1), and what they are of (P4.2).
func TestKnown(t *testing.T) {
	for _, x := range known {
		if f, e := Put([]byte(x.body)); !bytes.Equal(f, x.frame) || e != api.OK {
			t.Errorf("%q: % x, %d, not % x", x.body, f, e, x.frame)
		}
		checkSplit(t, x.frame, [][]byte{[]byte(x.body)}, len(x.frame))
	}
}

// TestLengths: bytes of all lengths at the bounds have their frame (P4.1), and
// it is told again (P4.2).
func TestLengths(t *testing.T) {
	for _, n := range lengths {
		for _, b := range [][]byte{mixed(n, uint32(n)), make([]byte, n), bytes.Repeat([]byte{255}, n)} {
			f, e := Put(b)
			if !bytes.Equal(f, slow(b)) || len(f) != n+6 || e != api.OK {
				t.Error(n, len(f), e)
			}
			checkSplit(t, f, [][]byte{b}, len(f))
		}
	}
}

// TestByte: each byte alone (P4.1 and P4.2).
func TestByte(t *testing.T) {
	for x := range 256 {
		b := []byte{byte(x)}
		f, e := Put(b)
		if !bytes.Equal(f, slow(b)) || e != api.OK {
			t.Error(x, f, e)
		}
		checkSplit(t, f, [][]byte{b}, 7)
	}
}

// TestRefused: no byte, and more than may be, have no frame (P4.1).
func TestRefused(t *testing.T) {
	for _, b := range [][]byte{nil, {}, mixed(3, 1)[:0], mixed(65536, 1), make([]byte, 65537), make([]byte, 65536+7), make([]byte, 131072), make([]byte, 1<<20)} {
		if f, e := Put(b); len(f) != 0 || e != api.ErrArg {
			t.Error(len(b), len(f), e)
		}
	}
}

// TestNone: texts that have no frame at their beginning tell none (P4.2).
func TestNone(t *testing.T) {
	a := slow([]byte("a"))
	for _, s := range [][]byte{
		nil, {}, {0}, {1}, {1, 0}, a[:5], a[:6], a[1:], append([]byte{0}, a...),
		bytes.Repeat([]byte{255}, 6), bytes.Repeat([]byte{255}, 100), bytes.Repeat([]byte{1}, 100),
		bytes.Repeat([]byte{255}, 70000), []byte("abcdefghijklmnopqrstuvwxyz"),
	} {
		checkSplit(t, s, nil, 0)
	}
}

// TestNoughts: the head of no byte has the sum of nothing, which is 0; it is no
// frame, alone or ahead of others or behind them (P4.2).
func TestNoughts(t *testing.T) {
	for _, n := range []int{1, 5, 6, 7, 12, 13, 600, 70000} {
		checkSplit(t, make([]byte, n), nil, 0)
	}
	a := slow([]byte("a"))
	checkSplit(t, slices.Concat(make([]byte, 6), a), nil, 0)
	checkSplit(t, slices.Concat(a, make([]byte, 6)), [][]byte{[]byte("a")}, 7)
	checkSplit(t, slices.Concat(a, make([]byte, 6), a), [][]byte{[]byte("a")}, 7)
	checkSplit(t, slices.Concat(a, make([]byte, 70000)), [][]byte{[]byte("a")}, 7)
}

// TestCount: a count that is one less, or more, or turned round, tells no frame,
// even if the sum is that of the bytes that are there (P4.2).
func TestCount(t *testing.T) {
	b := mixed(300, 4)
	sum := crc32.ChecksumIEEE(b)
	for _, count := range []int{0, 1, 299, 301, 44<<8 | 1, 65535} {
		checkSplit(t, headed(count, sum, b), nil, 0)
	}
	checkSplit(t, headed(300, sum, b), [][]byte{b}, 306)
	for count, b := range map[int][]byte{2: b[:1], 65535: make([]byte, 65534), 256: b[:255], 1: nil} {
		// All of the text's bytes have the sum, but the count says more.
		checkSplit(t, headed(count, crc32.ChecksumIEEE(b), b), nil, 0)
	}
	// A count whose upper byte alone says too much.
	checkSplit(t, headed(256+5, crc32.ChecksumIEEE(b[:5]), b[:5]), nil, 0)
}

// TestSum: any bit of the sum that is turned tells no frame, nor does one whose
// bytes are the other way round (P4.2).
func TestSum(t *testing.T) {
	b := []byte("123456789")
	const sum = 0xcbf43926
	checkSplit(t, headed(9, sum, b), [][]byte{b}, 15)
	for bit := range 32 {
		checkSplit(t, headed(9, sum^1<<bit, b), nil, 0)
	}
	for _, other := range []uint32{0x2639f4cb, ^uint32(sum), 0, 1<<32 - 1} {
		checkSplit(t, headed(9, other, b), nil, 0)
	}
}

// TestTurned: of frames one behind the other, with any one bit turned, those
// ahead of it are told, and none from there on (P4.2).
func TestTurned(t *testing.T) {
	s, bodies := some()
	at := 0
	for i, b := range bodies {
		for place := at; place < at+6+len(b); place++ {
			for bit := range 8 {
				torn := slices.Clone(s)
				torn[place] ^= 1 << bit
				checkSplit(t, torn, bodies[:i], at)
			}
		}
		at += 6 + len(b)
	}
	checkSplit(t, s, bodies, at)
}

// TestBehind: frames are told again, all of them, whatever stands behind (P4.3).
func TestBehind(t *testing.T) {
	s, bodies := some()
	for n := range bodies {
		checkSplit(t, s, bodies, len(s))
		for _, b := range [][]byte{
			{0}, {255}, {1, 0}, {1, 0, 0x43, 0xbe, 0xb7, 0xe8}, {1, 0, 0x43, 0xbe, 0xb7, 0xe8, 'b'},
			make([]byte, 6), bytes.Repeat([]byte{255}, 70000), mixed(100, uint32(n)), s[1:],
		} {
			checkSplit(t, slices.Concat(s, b), bodies, len(s))
		}
		b := mixed(n+1, uint32(n)+50)
		s, bodies = append(s, slow(b)...), append(bodies, b)
	}
}

// TestEnd: of a text that ends within a frame, at whatever place, all those
// ahead of it (P4.3).
func TestEnd(t *testing.T) {
	s, bodies := some()
	at := 0
	for i, b := range bodies {
		for end := at; end < at+6+len(b); end++ {
			checkSplit(t, s[:end], bodies[:i], at)
			// What stands behind the end in memory counts for nothing.
			checkSplit(t, slices.Clone(s[:end]), bodies[:i], at)
		}
		at += 6 + len(b)
	}
}

// TestLongEnd: so, too, of a frame as long as may be (P4.3).
func TestLongEnd(t *testing.T) {
	ahead, body := []byte("ahead"), mixed(65535, 9)
	s := slices.Concat(slow(ahead), slow(body))
	for _, missing := range []int{1, 2, 255, 256, 65534, 65535, 65536, 65540, 65541} {
		checkSplit(t, s[:len(s)-missing], [][]byte{ahead}, 11)
	}
	checkSplit(t, s, [][]byte{ahead, body}, 11+65541)
}

// TestMany: many frames, of all lengths at the bounds, put one behind the other
// by Put (P4.3).
func TestMany(t *testing.T) {
	var s []byte
	var bodies [][]byte
	for round := range 5 {
		for _, n := range lengths {
			b := mixed(n, uint32(n+round))
			f, _ := Put(b)
			s, bodies = append(s, f...), append(bodies, b)
		}
	}
	for i := range 20000 {
		b := mixed(1+i%9, uint32(i))
		f, _ := Put(b)
		s, bodies = append(s, f...), append(bodies, b)
	}
	checkSplit(t, s, bodies, len(s))
}

// TestInside: bytes that are frames themselves are told as they are (P4.2 and
// P4.3).
func TestInside(t *testing.T) {
	b := []byte("a")
	for range 50 {
		f, e := Put(b)
		if e != api.OK {
			t.Fatal(e)
		}
		checkSplit(t, f, [][]byte{b}, len(f))
		checkSplit(t, slices.Concat(f, f), [][]byte{b, b}, 2*len(f))
		b = f
	}
}

// TestWhole: what is told is the text's beginning, put again; what is left has
// no frame at its beginning; as the chapter's words say it of texts of frames
// that are turned at any places (P4.2).
func TestWhole(t *testing.T) {
	seed := uint32(1)
	for range 3000 {
		s, _ := some()
		for range 3 {
			seed = seed*1664525 + 1013904223
			s[int(seed>>8)%len(s)] ^= byte(seed>>4) & byte(seed>>12)
		}
		want, whole := slowSplit(s)
		checkSplit(t, s, want, whole)
		all, n := Split(s)
		var again []byte
		for _, b := range all {
			f, _ := Put(b)
			again = append(again, f...)
		}
		if !bytes.Equal(again, s[:n]) {
			t.Error(n, len(again))
		}
		checkSplit(t, s[n:], nil, 0)
	}
}

// TestLeft: what is handed in stays as it is, what stands behind it too; a
// second call tells the same (R3 and R4).
func TestLeft(t *testing.T) {
	room := mixed(40, 5)
	was := slices.Clone(room)
	f, _ := Put(room[3:20])
	again, _ := Put(room[3:20])
	if !bytes.Equal(f, again) || !bytes.Equal(f, slow(was[3:20])) || !bytes.Equal(room, was) {
		t.Error(f, again, room, was)
	}
	s, bodies := some()
	was = slices.Clone(s)
	for range 2 {
		checkSplit(t, s, bodies, len(s))
	}
	if !bytes.Equal(s, was) {
		t.Error("Split wrote into its text")
	}
}

// TestApart: what comes out shares nothing with what was handed in, nor with
// another part of the answer, also where it is appended to (R3).
func TestApart(t *testing.T) {
	b := mixed(30, 6)
	was := slices.Clone(b)
	f, _ := Put(b)
	clear(f)
	if !bytes.Equal(b, was) {
		t.Error("a frame shares its bytes")
	}
	s, bodies := some()
	was = slices.Clone(s)
	all, _ := Split(s)
	for i := range all {
		_ = append(all[i], 1, 2, 3, 4, 5, 6, 7)
		if !slices.EqualFunc(all[i+1:], bodies[i+1:], bytes.Equal) || !bytes.Equal(s, was) {
			t.Error("what is appended to is shared:", i)
		}
		clear(all[i])
	}
	if !bytes.Equal(s, was) {
		t.Error("what was split shares its bytes")
	}
	all, _ = Split(s)
	clear(s)
	if !slices.EqualFunc(all, bodies, bytes.Equal) {
		t.Error("what was split is turned later")
	}
}
