package word

import (
	"math"
	"testing"
)

// How many references there are, and what a top's tag, and the second one of
// two ends, count for.
const refs = 1048576

// references are ordinary ones, and those at the bounds.
var references = []int{0, 1, 2, 3, 5, 77, 1000, 65535, 65536, refs/2 - 1, refs / 2, refs - 2, refs - 1}

// bitSets are numbers whose lowest two bits are asked for, the others not.
var bitSets = []int{0, 1, 2, 3, 4, 5, 6, 7, 8, 0xf0, 0xf1, 0xf2, 0xf3, -1, -2, -3, -4, -5, math.MaxInt, math.MinInt, math.MinInt + 1, math.MinInt + 2}

// words are numbers whose bits change at each place, and ordinary ones.
func words() []uint64 {
	l := []uint64{0, 1, 2, 3, 5, 7, 22, 1048577, 0x0123456789abcdef, 0xfedcba9876543210, 0xaaaaaaaaaaaaaaaa, 0x5555555555555555}
	for bit := range 64 {
		one := uint64(1) << bit
		l = append(l, one-1, one, one+1, ^one, -one)
	}
	return l
}

// lowestTwo are a number's lowest two bits, as a number from 0 to 3.
func lowestTwo(bits int) uint64 {
	return uint64((bits%4 + 4) % 4)
}

// TestExamples: those of the chapter (P8.1, P8.2, P8.3).
func TestExamples(t *testing.T) {
	if w := Link(3, true); w != 7 {
		t.Error("Link(3, true):", w)
	}
	if w := Flag(5, 2); w != 22 {
		t.Error("Flag(5, 2):", w)
	}
	if w := Top(1, 1); w != 1048577 {
		t.Error("Top(1, 1):", w)
	}
}

// TestLink: twice a reference, and 1 of a mark (P8.1).
func TestLink(t *testing.T) {
	for _, ref := range references {
		if w := Link(ref, false); w != 2*uint64(ref) {
			t.Error(ref, w)
		}
		if w := Link(ref, true); w != 2*uint64(ref)+1 {
			t.Error(ref, w)
		}
	}
}

// TestRef: of any word half of it, without the bits that no reference has; and
// its mark, if it is odd (P8.1).
func TestRef(t *testing.T) {
	for _, w := range words() {
		if r := Ref(w); r != int(w/2%refs) {
			t.Error(w, r)
		}
		if Mark(w) != (w%2 == 1) {
			t.Error(w, Mark(w))
		}
	}
	for _, x := range []struct {
		w    uint64
		want int
	}{
		{2*refs - 1, refs - 1}, {2 * refs, 0}, {2*refs + 1, 0}, {2*refs + 2, 1}, {math.MaxUint64, refs - 1}, {1 << 63, 0},
	} {
		if r := Ref(x.w); r != x.want {
			t.Error(x.w, r)
		}
	}
}

// TestFlag: four times a stamp, that goes round, and two bits (P8.2).
func TestFlag(t *testing.T) {
	for _, stamp := range words() {
		for _, bits := range bitSets {
			if w := Flag(stamp, bits); w != 4*stamp+lowestTwo(bits) {
				t.Error(stamp, bits, w)
			}
		}
	}
}

// TestFlagBounds: the last stamp that goes in as it is, and the first that does
// not; and bits that turn no stamp (P8.2).
func TestFlagBounds(t *testing.T) {
	for _, x := range []struct {
		stamp uint64
		bits  int
		want  uint64
	}{
		{1<<62 - 1, 0, math.MaxUint64 - 3}, {1<<62 - 1, 3, math.MaxUint64},
		{1 << 62, 0, 0}, {1 << 62, 1, 1}, {1<<62 + 1, 2, 6}, {math.MaxUint64, 0, math.MaxUint64 - 3},
		{1, 4, 4}, {1, 5, 5}, {1, 7, 7}, {1, -1, 7}, {0, -4, 0}, {0, math.MinInt, 0},
	} {
		if w := Flag(x.stamp, x.bits); w != x.want {
			t.Error(x.stamp, x.bits, w)
		}
	}
}

// TestStamp: of any word a quarter of it (P8.2).
func TestStamp(t *testing.T) {
	for _, w := range words() {
		if s := Stamp(w); s != w/4 {
			t.Error(w, s)
		}
	}
}

// TestHas: all of the bits that are asked for, be there others or not; the
// higher ones are asked of nobody (P8.2).
func TestHas(t *testing.T) {
	for _, x := range []struct {
		has, asked uint64
		want       bool
	}{
		{0, 0, true}, {0, 1, false}, {0, 2, false}, {0, 3, false},
		{1, 0, true}, {1, 1, true}, {1, 2, false}, {1, 3, false},
		{2, 0, true}, {2, 1, false}, {2, 2, true}, {2, 3, false},
		{3, 0, true}, {3, 1, true}, {3, 2, true}, {3, 3, true},
	} {
		for _, w := range words() {
			for _, bits := range bitSets {
				if w%4 == x.has && lowestTwo(bits) == x.asked && Has(w, bits) != x.want {
					t.Error(w, bits, !x.want)
				}
			}
		}
	}
}

// TestTop: a reference, and a tag above it, that goes round (P8.3).
func TestTop(t *testing.T) {
	for _, ref := range references {
		for _, tag := range words() {
			if w := Top(ref, tag); w != uint64(ref)+refs*tag {
				t.Error(ref, tag, w)
			}
		}
	}
	for _, x := range []struct {
		ref  int
		tag  uint64
		want uint64
	}{
		{refs - 1, 0, refs - 1}, {refs - 1, 1<<44 - 1, math.MaxUint64}, {0, 1 << 44, 0}, {7, 1<<44 + 1, refs + 7},
		{7, math.MaxUint64, math.MaxUint64 - refs + 8},
	} {
		if w := Top(x.ref, x.tag); w != x.want {
			t.Error(x.ref, x.tag, w)
		}
	}
}

// TestFirst: of any word the lowest 20 bits, and the others (P8.3).
func TestFirst(t *testing.T) {
	for _, w := range words() {
		if r := First(w); r != int(w%refs) {
			t.Error(w, r)
		}
		if g := Tag(w); g != w/refs {
			t.Error(w, g)
		}
	}
}

// TestEnds: a reference, and another above it (P8.4).
func TestEnds(t *testing.T) {
	for _, u := range references {
		for _, v := range references {
			if w := Ends(u, v); w != uint64(u)+refs*uint64(v) {
				t.Error(u, v, w)
			}
		}
	}
	if w := Ends(refs-1, refs-1); w != 1<<40-1 {
		t.Error(w)
	}
}

// TestPair: of any word the lowest 20 bits, and the next 20, whatever is above
// (P8.4).
func TestPair(t *testing.T) {
	for _, w := range words() {
		if u, v := Pair(w); u != int(w%refs) || v != int(w/refs%refs) {
			t.Error(w, u, v)
		}
	}
	for _, high := range []uint64{0, 1 << 40, 1 << 63, math.MaxUint64 - (1<<40 - 1)} {
		if u, v := Pair(high + 3 + refs*4); u != 3 || v != 4 {
			t.Error(high, u, v)
		}
	}
}

// TestBack: what is put in comes out again (P8.5).
func TestBack(t *testing.T) {
	for _, ref := range references {
		for _, mark := range []bool{false, true} {
			if w := Link(ref, mark); Ref(w) != ref || Mark(w) != mark {
				t.Error(ref, mark, w)
			}
		}
		for bit := range 44 {
			for _, tag := range []uint64{0, 1 << bit, 1<<44 - 1 - 1<<bit} {
				if w := Top(ref, tag); First(w) != ref || Tag(w) != tag {
					t.Error(ref, tag, w)
				}
			}
		}
		for _, other := range references {
			if u, v := Pair(Ends(ref, other)); u != ref || v != other {
				t.Error(ref, other, u, v)
			}
		}
	}
	for bit := range 62 {
		for _, stamp := range []uint64{0, 1 << bit, 1<<62 - 1 - 1<<bit} {
			for bits := range 4 {
				w := Flag(stamp, bits)
				if Stamp(w) != stamp || Has(w, 1) != (bits%2 == 1) || Has(w, 2) != (bits/2 == 1) || !Has(w, bits) {
					t.Error(stamp, bits, w)
				}
			}
		}
	}
}

// TestEveryReference: all there are, with a mark and without, as a top's, and
// as either end (P8.5).
func TestEveryReference(t *testing.T) {
	for ref := range refs {
		other := refs - 1 - ref
		u, v := Pair(Ends(ref, other))
		if Ref(Link(ref, true)) != ref || Ref(Link(ref, false)) != ref || First(Top(ref, uint64(other))) != ref || u != ref || v != other {
			t.Fatal(ref)
		}
	}
}

// TestStrangers: of what is no reference nothing is promised, but that the
// calls end.
func TestStrangers(t *testing.T) {
	for _, x := range []int{-1, refs, refs + 1, math.MinInt, math.MaxInt} {
		Link(x, false)
		Link(x, true)
		Top(x, math.MaxUint64)
		Ends(x, 0)
		Ends(0, x)
	}
}
