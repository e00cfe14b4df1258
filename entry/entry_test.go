package entry

import (
	"bytes"
	"encoding/binary"
	"math"
	"slices"
	"testing"

	"weald/api"
	"weald/key"
)

const (
	maxStamp = 1<<62 - 1
	lastKey  = (1<<30-1)<<31 + 1<<30 // of the edge between the last vertex and itself
	nan      = 0x7ff8000000000001
)

// known are entries, and their bytes.
var known = []struct {
	e api.Entry
	b string
}{
	{api.Entry{Kind: 2, Stamp: 7}, "\x02\x07\x00\x00\x00\x00\x00\x00\x00"},
	{api.Entry{Kind: 2, Stamp: maxStamp}, "\x02\xff\xff\xff\xff\xff\xff\xff\x3f"},
	{api.Entry{Kind: 2, Stamp: 0x0102030405060708}, "\x02\x08\x07\x06\x05\x04\x03\x02\x01"},
	{api.Entry{Kind: 3}, "\x03\x00\x00\x00\x00\x00\x00\x00\x00"},
	{api.Entry{Kind: 3, Stamp: 65536}, "\x03\x00\x00\x01\x00\x00\x00\x00\x00"},
	{api.Entry{Kind: 1, Stamp: 1}, "\x01\x01" + noughts[:39]},
	{api.Entry{Kind: 1, Stamp: 5, Key: 6442450944, W: 9}, "\x01\x05" + noughts[:7] + "\x00\x00\x00\x80\x01" + noughts[:19] + "\x09" + noughts[:7]},
	{
		api.Entry{Kind: 1, Stamp: 0x11, Key: 6442450945, SU: 0x2223, SV: maxStamp, W: 0xbff0000000000000},
		"\x01\x11" + noughts[:7] + "\x01\x00\x00\x80\x01" + noughts[:3] + "\x23\x22" + noughts[:6] + "\xff\xff\xff\xff\xff\xff\xff\x3f" + noughts[:6] + "\xf0\xbf",
	},
}

const noughts = "\x00\x00\x00\x00\x00\x00\x00\x00\x00\x00\x00\x00\x00\x00\x00\x00\x00\x00\x00\x00\x00\x00\x00\x00\x00\x00\x00\x00\x00\x00\x00\x00\x00\x00\x00\x00\x00\x00\x00\x00"

// What entries are tried with: what may be, the edges of it, and what may not be.
var (
	kinds  = []int{math.MinInt, -1, 0, 1, 2, 3, 4, 5, 255, 256, 257, 258, 259, 1<<32 + 2, math.MaxInt}
	stamps = []uint64{0, 1, 2, 65535, 65536, 65537, maxStamp, maxStamp + 1, maxStamp + 2, 1<<63 - 1, 1 << 63, 1<<63 + 1, math.MaxUint64}
	keys   = []uint64{0, 1, 2, 1 << 30, 1<<30 + 1, 1<<31 - 1, 1 << 31, 1<<31 + 1, 6442450944, 6442450945, (1<<30 - 1) << 31, lastKey - 1, lastKey, lastKey + 1, 1 << 61, 1<<61 + 1, 1<<63 + 1, math.MaxUint64}
	ends   = []uint64{0, 1, 7, 65537, maxStamp, maxStamp + 1, 1 << 63, math.MaxUint64}
	weighs = []uint64{0, 1, 1 << 63, 0x3ff0000000000000, nan, math.MaxUint64}
)

// each goes over entries of all that is tried, of some kinds.
func each(of []int, try func(e api.Entry)) {
	for _, kind := range of {
		for _, stamp := range stamps {
			for _, k := range keys {
				for _, su := range ends {
					for _, sv := range ends {
						for _, w := range weighs {
							try(api.Entry{Kind: kind, Stamp: stamp, Key: k, SU: su, SV: sv, W: w})
						}
					}
				}
			}
		}
	}
}

// slowMay is the chapter's word of an entry that may be.
func slowMay(e api.Entry) bool {
	stamp := func(x uint64) bool { return 0 < x && x>>62 == 0 }
	switch e.Kind {
	case 1:
		u, next := e.Key/(1<<31), e.Key%(1<<31)
		if !stamp(e.Stamp) || u >= 1<<30 || next > 1<<30 {
			return false
		}
		if next == 0 {
			return e.SU == 0 && e.SV == 0
		}
		return stamp(e.SU) && stamp(e.SV)
	case 2:
		return stamp(e.Stamp) && e.Key|e.SU|e.SV|e.W == 0
	case 3:
		return e.Stamp <= 65536 && e.Key|e.SU|e.SV|e.W == 0
	}
	return false
}

// slowBytes is the chapter's word of an entry's bytes.
func slowBytes(e api.Entry) []byte {
	b := binary.LittleEndian.AppendUint64([]byte{byte(e.Kind)}, e.Stamp)
	if e.Kind == api.EBirth {
		for _, x := range []uint64{e.Key, e.SU, e.SV, e.W} {
			b = binary.LittleEndian.AppendUint64(b, x)
		}
	}
	return b
}

// row is a byte, and numbers behind it in eight bytes each.
func row(kind byte, all ...uint64) []byte {
	b := []byte{kind}
	for _, x := range all {
		b = binary.LittleEndian.AppendUint64(b, x)
	}
	return b
}

// checkDecode: is this the entry of bytes?
func checkDecode(t *testing.T, b []byte, want api.Entry) {
	t.Helper()
	if e, code := Decode(b); e != want || code != api.OK {
		t.Errorf("% x: %+v, %d, not %+v", b, e, code, want)
	}
}

// checkNone: have bytes no entry?
func checkNone(t *testing.T, b []byte) {
	t.Helper()
	if e, code := Decode(b); e != (api.Entry{}) || code != api.ErrForm {
		t.Errorf("% x: %+v, %d", b, e, code)
	}
}

// TestExample: that of the chapter (P5.1).
func TestExample(t *testing.T) {
	b, code := Encode(api.Entry{Kind: api.EDeath, Stamp: 7})
	if want := []byte{0x02, 0x07, 0, 0, 0, 0, 0, 0, 0}; !bytes.Equal(b, want) || code != api.OK {
		t.Error(b, code)
	}
}

// TestKnown: entries with their bytes written out (P5.1), and back (P5.2).
func TestKnown(t *testing.T) {
	for _, x := range known {
		if !May(x.e) {
			t.Errorf("%+v may not be", x.e)
		}
		if b, code := Encode(x.e); string(b) != x.b || code != api.OK {
			t.Errorf("%+v: % x, %d, not % x", x.e, b, code, x.b)
		}
		checkDecode(t, []byte(x.b), x.e)
	}
}

// TestVertexBirth: a vertex's birth has a stamp, and no ends' stamps, and any
// weight (P5.1).
func TestVertexBirth(t *testing.T) {
	k, _ := key.Vertex(3)
	good := api.Entry{Kind: api.EBirth, Stamp: 8, Key: k, W: nan}
	checkMay(t, good, true)
	for _, w := range weighs {
		e := good
		e.W = w
		checkMay(t, e, true)
	}
	for _, x := range []uint64{1, 8, maxStamp, 1 << 62, math.MaxUint64} {
		e := good
		e.SU = x
		checkMay(t, e, false)
		e.SV = x
		checkMay(t, e, false)
		e.SU = 0
		checkMay(t, e, false)
	}
}

// TestEdgeBirth: an edge's birth has stamps of both ends (P5.1), that of a loop
// too.
func TestEdgeBirth(t *testing.T) {
	for _, pair := range [][2]int{{3, 0}, {0, 0}, {0, 3}, {5, 5}, {1<<30 - 1, 1<<30 - 1}} {
		k, _ := key.Edge(pair[0], pair[1])
		good := api.Entry{Kind: api.EBirth, Stamp: 8, Key: k, SU: 2, SV: 2, W: 1 << 63}
		checkMay(t, good, true)
		for _, x := range ends {
			right := x > 0 && x <= maxStamp
			e := good
			e.SU = x
			checkMay(t, e, right)
			e.SU, e.SV = good.SU, x
			checkMay(t, e, right)
			e.SU = x
			checkMay(t, e, right)
		}
	}
}

// TestBirthKey: a birth's key is one of chapter 1 (P5.1).
func TestBirthKey(t *testing.T) {
	for _, k := range keys {
		vertex := api.Entry{Kind: api.EBirth, Stamp: 1, Key: k}
		edge := api.Entry{Kind: api.EBirth, Stamp: 1, Key: k, SU: 1, SV: 1}
		checkMay(t, vertex, k%(1<<31) == 0 && k < 1<<61)
		checkMay(t, edge, k%(1<<31) != 0 && k%(1<<31) <= 1<<30 && k < 1<<61)
	}
}

// TestStamps: births and deaths have a stamp above 0 and below 2^62, heads a
// number up to MaxC (P5.1).
func TestStamps(t *testing.T) {
	for _, x := range stamps {
		checkMay(t, api.Entry{Kind: api.EBirth, Stamp: x}, x > 0 && x < 1<<62)
		checkMay(t, api.Entry{Kind: api.EBirth, Stamp: x, Key: 1, SU: 1, SV: 1}, x > 0 && x < 1<<62)
		checkMay(t, api.Entry{Kind: api.EDeath, Stamp: x}, x > 0 && x < 1<<62)
		checkMay(t, api.Entry{Kind: api.EHead, Stamp: x}, x <= 65536)
	}
}

// TestElse: a death and a head have nothing else (P5.1).
func TestElse(t *testing.T) {
	for _, kind := range []int{api.EDeath, api.EHead} {
		for _, x := range []uint64{1, 2, 1 << 31, 1 << 62, 1 << 63, math.MaxUint64} {
			checkMay(t, api.Entry{Kind: kind, Stamp: 1, Key: x}, false)
			checkMay(t, api.Entry{Kind: kind, Stamp: 1, SU: x}, false)
			checkMay(t, api.Entry{Kind: kind, Stamp: 1, SV: x}, false)
			checkMay(t, api.Entry{Kind: kind, Stamp: 1, W: x}, false)
			checkMay(t, api.Entry{Kind: kind, Stamp: 1, Key: x, SU: x, SV: x, W: x}, false)
		}
	}
}

// TestKinds: there are three kinds (P5.1), in bytes too (P5.2).
func TestKinds(t *testing.T) {
	for _, kind := range kinds {
		is := kind >= 1 && kind <= 3
		checkMay(t, api.Entry{Kind: kind, Stamp: 1}, is)
		checkMay(t, api.Entry{Kind: kind}, kind == 3)
	}
	for kind := range 256 {
		if kind != 2 && kind != 3 {
			checkNone(t, row(byte(kind), 1))
		}
		if kind != 1 {
			checkNone(t, row(byte(kind), 1, 0, 0, 0, 0))
		}
		checkNone(t, row(byte(kind)))
	}
}

// checkMay: may an entry be, and has it bytes, just if it is said so (P5.1), and
// is it that of its bytes (P5.2 and P5.3)?
func checkMay(t *testing.T, e api.Entry, may bool) {
	t.Helper()
	if May(e) != may {
		t.Errorf("%+v: %v, not %v", e, May(e), may)
	}
	b, code := Encode(e)
	if !may {
		if len(b) != 0 || code != api.ErrArg {
			t.Errorf("%+v: % x, %d", e, b, code)
		}
		return
	}
	if !bytes.Equal(b, slowBytes(e)) || code != api.OK {
		t.Errorf("%+v: % x, %d", e, b, code)
	}
	checkDecode(t, b, e)
}

// TestAll: each number at its bounds with each other, against the chapter's
// words (P5.1), and told again (P5.3).
func TestAll(t *testing.T) {
	some := 0
	each([]int{0, 1, 2, 3, 4}, func(e api.Entry) {
		checkMay(t, e, slowMay(e))
		if slowMay(e) {
			some++
		}
	})
	if some < 1000 {
		t.Error("few entries that may be:", some)
	}
}

// TestRows: bytes of all numbers at their bounds are an entry's just if what
// stands in them may be (P5.2), and then are its bytes again (P5.3).
func TestRows(t *testing.T) {
	each([]int{0, 1, 2, 3, 4, 255}, func(e api.Entry) {
		rows := [][]byte{row(byte(e.Kind), e.Stamp, e.Key, e.SU, e.SV, e.W)}
		if e.Key|e.SU|e.SV|e.W == 0 {
			rows = append(rows, row(byte(e.Kind), e.Stamp))
		}
		for _, b := range rows {
			if !slowMay(e) || !bytes.Equal(b, slowBytes(e)) {
				checkNone(t, b)
				continue
			}
			checkDecode(t, b, e)
			if again, code := Encode(e); !bytes.Equal(again, b) || code != api.OK {
				t.Errorf("% x: % x, %d", b, again, code)
			}
		}
	})
}

// TestLengths: bytes that are fewer or more than an entry's are none (P5.2).
func TestLengths(t *testing.T) {
	checkNone(t, nil)
	checkNone(t, []byte{})
	for _, x := range known {
		long := append([]byte(x.b), make([]byte, 50)...)
		for n := range long {
			if n != len(x.b) {
				checkNone(t, long[:n])
			}
		}
	}
	// A death and a head with all a birth has, even if that is nothing; and a
	// birth with no more than a death.
	checkNone(t, row(2, 1, 0, 0, 0, 0))
	checkNone(t, row(3, 1, 0, 0, 0, 0))
	checkNone(t, row(1, 1))
	checkNone(t, make([]byte, 1<<16))
}

// TestBits: each bit of a byte counts in what is encoded and decoded (P5.3).
func TestBits(t *testing.T) {
	for _, x := range known {
		for i := range 8 * len(x.b) {
			b := []byte(x.b)
			b[i/8] ^= 1 << (i % 8)
			e, code := Decode(b)
			if code == api.ErrForm {
				checkNone(t, b)
				continue
			}
			if again, code := Encode(e); !bytes.Equal(again, b) || code != api.OK || e == x.e {
				t.Errorf("% x: %+v, % x", b, e, again)
			}
		}
	}
}

// TestApart: bytes that are handed in stay as they are, and what is told shares
// nothing with them, nor with what is told again (rules R3 and R4).
func TestApart(t *testing.T) {
	for _, x := range known {
		in := append([]byte(x.b), 1, 2, 3)[:len(x.b)]
		kept := bytes.Clone(in[:cap(in)])
		e, _ := Decode(in)
		if !bytes.Equal(in[:cap(in)], kept) {
			t.Errorf("% x: written into", x.b)
		}
		for i := range in {
			in[i] = 0xee
		}
		one, _ := Encode(e)
		two, _ := Encode(e)
		for i := range one {
			one[i] = 0xee
		}
		if string(two) != x.b {
			t.Errorf("% x: shared", x.b)
		}
		three, code := Encode(e)
		if !slices.Equal(three, two) || code != api.OK {
			t.Errorf("% x: % x the next time", x.b, three)
		}
		one = append(two, 9)
		if four, _ := Encode(e); string(four) != x.b || len(one) != len(x.b)+1 {
			t.Errorf("% x: kept", x.b)
		}
	}
}
