package weight

import (
	"math"
	"slices"
	"testing"
)

const (
	negative = 1 << 63
	hidden   = 1 << 52 // the lowest bit of the exponent
)

// rising are the bits of floats of every kind and of both signs, those at the
// bounds among them, each ahead of the next in the order of all floats.
var rising = []uint64{
	// with a sign, the greatest number first
	math.MaxUint64, // none, its fraction full
	negative + 2047*hidden + 1<<51 + 1,
	negative + 2047*hidden + 1<<51, // none that is quiet
	negative + 2047*hidden + 1,     // none, its fraction the least (it signals)
	negative + 2047*hidden,         // an infinity
	negative + 2047*hidden - 1,     // the greatest usual one
	negative + 4613937818241073152, // -3
	negative + 4607182418800017409, // beside -1
	negative + 4607182418800017408, // -1
	negative + 4607182418800017407,
	negative + hidden + 1,
	negative + hidden,     // the least usual one
	negative + hidden - 1, // the greatest small one
	negative + 1<<51,
	negative + 2,
	negative + 1, // the least small one
	negative,     // -0
	// without, the lowest number first
	0,
	1,
	2,
	1 << 51,
	hidden - 1,
	hidden,
	hidden + 1,
	4607182418800017407,
	4607182418800017408,
	4607182418800017409,
	4613937818241073152,
	2047*hidden - 1,
	2047 * hidden,
	2047*hidden + 1,
	2047*hidden + 1<<51,
	2047*hidden + 1<<51 + 1,
	math.MaxInt64,
}

// known are floats whose bits are told by their parts: 2^(exponent - 1023)
// times 1 and the fraction's share of 2^52.
var known = []struct {
	f float64
	b uint64
}{
	{0, 0},
	{math.Copysign(0, -1), negative},
	{1, 1023 * hidden},
	{-1, negative + 1023*hidden},
	{1.5, 1023*hidden + 1<<51},
	{2, 1024 * hidden},
	{-2.5, negative + 1024*hidden + 1<<50},
	{3, 1024*hidden + 1<<51},
	{0.1, 0x3fb999999999999a},
	{math.Ldexp(1, -1022), hidden},
	{-math.Ldexp(1, -1022), negative + hidden},
	{math.Ldexp(1, -1022) - math.Ldexp(1, -1074), hidden - 1},
	{math.Ldexp(1, -1074), 1},
	{-math.Ldexp(1, -1074), negative + 1},
	{math.Ldexp(1, 1023), 2046 * hidden},
	{math.MaxFloat64, 2047*hidden - 1},
	{-math.MaxFloat64, negative + 2047*hidden - 1},
	{math.Inf(1), 2047 * hidden},
	{math.Inf(-1), negative + 2047*hidden},
}

// TestExamples: those of the chapter (P2.1 and P2.3).
func TestExamples(t *testing.T) {
	if b := Bits(1); b != 4607182418800017408 {
		t.Error("Bits(1):", b)
	}
	if !Less(1<<63, 0) || Less(0, 1<<63) {
		t.Error("-0 is ahead of 0:", Less(1<<63, 0), Less(0, 1<<63))
	}
}

// TestKnown: a float has its bits, and bits their float, its sign told by what
// it divides, as a nought hides it (P2.1).
func TestKnown(t *testing.T) {
	for _, x := range known {
		if b := Bits(x.f); b != x.b {
			t.Error(x.f, b, x.b)
		}
		if f := Of(x.b); f != x.f || 1/f != 1/x.f {
			t.Error(x.b, f, x.f)
		}
	}
}

// TestBack: bits are turned and turned back, bit for bit, also of what is none
// (P2.1).
func TestBack(t *testing.T) {
	all := slices.Clone(rising)
	for bit := range 64 {
		all = append(all, 1<<bit, 1<<bit-1, ^(uint64(1) << bit), 2047*hidden+1<<bit)
	}
	for _, b := range all {
		if again := Bits(Of(b)); again != b {
			t.Error(b, again)
		}
	}
}

// TestNone: bits of what is none are of a float that isn't itself (P2.1).
func TestNone(t *testing.T) {
	for _, b := range rising {
		f, want := Of(b), b&(negative-1) > 2047*hidden
		if (f != f) != want {
			t.Error(b, f, want)
		}
	}
}

// TestKind: of each kind those at its bounds, of both signs (P2.2).
func TestKind(t *testing.T) {
	for _, x := range []struct {
		b    uint64
		want int
	}{
		{0, 0},
		{1, 1}, {2, 1}, {1 << 31, 1}, {1 << 32, 1}, {1 << 51, 1}, {hidden - 1, 1},
		{hidden, 2}, {hidden + 1, 2}, {2*hidden - 1, 2}, {1023 * hidden, 2}, {1024 * hidden, 2}, {0x3fb999999999999a, 2},
		{2046 * hidden, 2}, {2046*hidden + 1, 2}, {2047*hidden - 1, 2},
		{2047 * hidden, 3},
		{2047*hidden + 1, 4}, {2047*hidden + 1<<31, 4}, {2047*hidden + 1<<32, 4}, {2047*hidden + 1<<51, 4}, {math.MaxInt64, 4},
	} {
		if k := Kind(x.b); k != x.want {
			t.Error(x.b, k, x.want)
		}
		if k := Kind(negative + x.b); k != x.want {
			t.Error("with a sign:", x.b, k, x.want)
		}
	}
}

// TestKindOfBits: any bit of the exponent, or of the fraction, that is set or
// missing tells (P2.2).
func TestKindOfBits(t *testing.T) {
	for bit := range 52 {
		if k := Kind(1 << bit); k != 1 {
			t.Error(bit, k)
		}
		if k := Kind(2047*hidden + 1<<bit); k != 4 {
			t.Error(bit, k)
		}
	}
	for bit := 52; bit < 63; bit++ {
		for _, fraction := range []uint64{0, 1, hidden - 1} {
			if k := Kind(1<<bit + fraction); k != 2 {
				t.Error(bit, fraction, k)
			}
			if k := Kind(2047*hidden - 1<<bit + fraction); k != 2 {
				t.Error(bit, fraction, k)
			}
		}
	}
}

// TestLess: each pair, both ways round, and each float with itself (P2.3).
func TestLess(t *testing.T) {
	for i, a := range rising {
		for j, b := range rising {
			if Less(a, b) != (i < j) {
				t.Error(i, a, j, b, Less(a, b))
			}
		}
	}
}

// TestGreatest: of a row, whatever stands last in the order, wherever it lies;
// the row stays as it was (P2.3).
func TestGreatest(t *testing.T) {
	for n := 1; n <= len(rising); n++ {
		l := slices.Clone(rising[:n])
		for range n {
			was := slices.Clone(l)
			if b, is := Greatest(l); b != rising[n-1] || !is {
				t.Error(n, l, b, is)
			}
			if !slices.Equal(l, was) {
				t.Error(n, l, was)
			}
			l = append(l[1:], l[0])
		}
		slices.Reverse(l)
		if b, is := Greatest(l); b != rising[n-1] || !is {
			t.Error(n, l, b, is)
		}
	}
}

// TestGreatestFew: of none there is no greatest one; one alone is it, and so
// is one that comes more than once (P2.3).
func TestGreatestFew(t *testing.T) {
	for _, l := range [][]uint64{nil, {}} {
		if b, is := Greatest(l); b != 0 || is {
			t.Error(l, b, is)
		}
	}
	for _, b := range rising {
		for n := 1; n <= 3; n++ {
			if top, is := Greatest(slices.Repeat([]uint64{b}, n)); top != b || !is {
				t.Error(b, n, top, is)
			}
		}
	}
	for _, x := range []struct {
		l    []uint64
		want uint64
	}{
		{[]uint64{negative, 0}, 0},
		{[]uint64{0, negative}, 0},
		{[]uint64{negative + 2, negative + 1, negative + 3}, negative + 1},
		{[]uint64{math.MaxUint64, negative + 2047*hidden}, negative + 2047*hidden},
		{[]uint64{2047 * hidden, 2047*hidden + 1, 7}, 2047*hidden + 1},
	} {
		if b, is := Greatest(x.l); b != x.want || !is {
			t.Error(x.l, b, is, x.want)
		}
	}
}

// TestCompared: floats that may be compared, and differ, are in the order in
// which they compare (P2.4).
func TestCompared(t *testing.T) {
	floats := []float64{-1e300, -7.25, -1e-300, 1e-300, 0.3, 0.1 + 0.2, 1e15, 1e15 + 1, math.Pi}
	for _, x := range known {
		floats = append(floats, x.f)
	}
	for _, b := range rising {
		floats = append(floats, Of(b))
	}
	for _, x := range floats {
		for _, y := range floats {
			if (x < y || x > y) && Less(Bits(x), Bits(y)) != (x < y) {
				t.Error(x, y, Less(Bits(x), Bits(y)))
			}
		}
	}
}

// TestEnds: what is none is at the one end if it has a sign, or else at the
// other; -0 is between what is below nought and 0 (P2.4).
func TestEnds(t *testing.T) {
	for _, b := range rising {
		if Kind(b) == 4 {
			continue
		}
		for _, fraction := range []uint64{1, 1 << 51, hidden - 1} {
			first, last := negative+2047*hidden+fraction, 2047*hidden+fraction
			if !Less(first, b) || Less(b, first) || !Less(b, last) || Less(last, b) {
				t.Error(b, fraction, Less(first, b), Less(b, first), Less(b, last), Less(last, b))
			}
		}
	}
	if !Less(Bits(-math.SmallestNonzeroFloat64), negative) || !Less(negative, 0) || Less(0, negative) {
		t.Error("-0 isn't in its place")
	}
}
