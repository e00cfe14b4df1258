package crc

import (
	"bytes"
	"math"
	"slices"
	"testing"
)

// known are checks of texts that others have told.
var known = []struct {
	text string
	want uint32
}{
	{"", 0},
	{"a", 0xe8b7be43},
	{"abc", 0x352441c2},
	{"123456789", 0xcbf43926},
	{"message digest", 0x20159d7f},
	{"abcdefghijklmnopqrstuvwxyz", 0x4c2750bd},
	{"The quick brown fox jumps over the lazy dog", 0x414fa339},
	{"\x00", 0xd202ef8d},
	{"\x00\x00\x00\x00", 0x2144df1c},
	{"\xff", 0xff000000},
	{"\xff\xff\xff\xff", 0xffffffff},
}

// sums are sums to go on from: ordinary ones, and those at the bounds.
var sums = []uint32{0, 1, 2, 255, 256, 0xcbf43926, 0xedb88320, math.MaxInt32, 1 << 31, math.MaxUint32 - 1, math.MaxUint32}

// slow is the chapter's words, a bit at a time.
func slow(sum uint32, b []byte) uint32 {
	s := ^sum
	for _, x := range b {
		s ^= uint32(x)
		for range 8 {
			out := s & 1
			s >>= 1
			if out == 1 {
				s ^= 0xedb88320
			}
		}
	}
	return ^s
}

// mixed are n bytes of all kinds, others for another seed.
func mixed(n int, seed uint32) []byte {
	b := make([]byte, n)
	for i := range b {
		seed = seed*1664525 + 1013904223
		b[i] = byte(seed >> 24)
	}
	return b
}

// turned is b with some bits turned, from the bit at a place on; a byte's
// lowest bit is its first.
func turned(b []byte, at int, bits uint32) []byte {
	b = slices.Clone(b)
	for i := range 32 {
		if bits>>i&1 == 1 {
			b[(at+i)/8] ^= 1 << ((at + i) % 8)
		}
	}
	return b
}

// TestExample: that of the chapter (P3.1).
func TestExample(t *testing.T) {
	if s := Sum([]byte("123456789")); s != 3421780262 {
		t.Error(s)
	}
}

// TestKnown: checks that others have told (P3.1).
func TestKnown(t *testing.T) {
	for _, x := range known {
		if s := Sum([]byte(x.text)); s != x.want {
			t.Errorf("%q: %08x, not %08x", x.text, s, x.want)
		}
	}
}

// TestNone: without bytes a sum stays as it is, and that of nothing is 0 (P3.1).
func TestNone(t *testing.T) {
	for _, b := range [][]byte{nil, {}, mixed(3, 1)[:0]} {
		if s := Sum(b); s != 0 {
			t.Error(b, s)
		}
		for _, sum := range sums {
			if s := More(sum, b); s != sum {
				t.Error(sum, b, s)
			}
		}
	}
}

// TestByte: each byte alone, from each sum on (P3.1).
func TestByte(t *testing.T) {
	for x := range 256 {
		b := []byte{byte(x)}
		if s := Sum(b); s != slow(0, b) {
			t.Error(x, s, slow(0, b))
		}
		for _, sum := range sums {
			if s := More(sum, b); s != slow(sum, b) {
				t.Error(sum, x, s, slow(sum, b))
			}
		}
	}
}

// TestText: texts of all short lengths, and of some long ones, from each sum
// on; sums whose bits are single, too (P3.1).
func TestText(t *testing.T) {
	from := slices.Clone(sums)
	for bit := range 32 {
		from = append(from, 1<<bit, ^(uint32(1) << bit))
	}
	for n := range 70 {
		b := mixed(n, uint32(n))
		for _, sum := range from {
			if s := More(sum, b); s != slow(sum, b) {
				t.Error(sum, b, s, slow(sum, b))
			}
		}
	}
	for _, n := range []int{255, 256, 65535, 65536, 1 << 20} {
		for _, b := range [][]byte{mixed(n, 7), make([]byte, n), bytes.Repeat([]byte{255}, n)} {
			if s := Sum(b); s != slow(0, b) {
				t.Error(n, b[0], s, slow(0, b))
			}
		}
	}
}

// TestSumIsMore: a Sum is More of 0 (P3.1).
func TestSumIsMore(t *testing.T) {
	for n := range 40 {
		b := mixed(n, uint32(n)+99)
		if Sum(b) != More(0, b) {
			t.Error(b, Sum(b), More(0, b))
		}
	}
}

// TestLeft: bytes that are handed in stay as they are, those behind them too,
// and a second call tells the same (R3 and R4).
func TestLeft(t *testing.T) {
	whole := mixed(40, 5)
	was := slices.Clone(whole)
	first := More(9, whole[3:20])
	if again := More(9, whole[3:20]); again != first {
		t.Error(first, again)
	}
	if s := Sum(whole[3:20]); s != slow(0, was[3:20]) {
		t.Error(s)
	}
	if !bytes.Equal(whole, was) {
		t.Error(whole, was)
	}
}

// TestBehind: More of a Sum, and others, is the Sum of both, wherever a text is
// parted, into two or three (P3.2).
func TestBehind(t *testing.T) {
	for _, b := range [][]byte{mixed(30, 3), make([]byte, 30), []byte("123456789")} {
		want := Sum(b)
		for i := range len(b) + 1 {
			if s := More(Sum(b[:i]), b[i:]); s != want {
				t.Error(b, i, s, want)
			}
			for j := i; j <= len(b); j++ {
				if s := More(More(Sum(b[:i]), b[i:j]), b[j:]); s != want {
					t.Error(b, i, j, s, want)
				}
			}
		}
	}
}

// TestFewBits: texts that differ in up to 12 bits next to each other, in all
// ways, at all places, have different sums (P3.2).
func TestFewBits(t *testing.T) {
	b := mixed(6, 11)
	sum := Sum(b)
	for bits := uint32(1); bits < 1<<12; bits++ {
		for at := range 8*len(b) - 11 {
			if other := turned(b, at, bits); Sum(other) == sum {
				t.Error(b, other)
			}
		}
	}
}

// TestManyBits: so have those that differ in up to 32 bits; the outer ones
// differ, of those between some (P3.2).
func TestManyBits(t *testing.T) {
	seed := uint32(1)
	for _, b := range [][]byte{mixed(12, 13), make([]byte, 12), mixed(100, 17)} {
		sum := Sum(b)
		for length := 2; length <= 32; length++ {
			outer := uint32(1)<<(length-1) + 1
			for at := range 8*len(b) - length + 1 {
				seed = seed*1664525 + 1013904223
				for _, between := range []uint32{0, 1<<length - 1, seed, seed >> 7, 0xedb88320} {
					bits := outer | between&(1<<length-1)
					if other := turned(b, at, bits); Sum(other) == sum {
						t.Error(length, at, bits)
					}
				}
			}
		}
	}
}

// TestRule: of a difference of 33 bits the rule's own is seen nowhere: what is
// told of 32 bits is all that can be (P3.2).
func TestRule(t *testing.T) {
	b := mixed(12, 19)
	for at := range 8*len(b) - 32 {
		other := turned(turned(b, at, 1), at+1, 0xedb88320)
		if Sum(other) != Sum(b) {
			t.Error(at, Sum(other), Sum(b))
		}
	}
}
