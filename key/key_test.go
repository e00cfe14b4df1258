package key

import (
	"math"
	"testing"

	"weald/api"
)

// vertices are ordinary ones, and those at the bounds, rising.
var vertices = []int{0, 1, 2, 3, 1000, 1<<29 - 1, 1 << 29, api.MaxKey - 2, api.MaxKey - 1}

// strangers are numbers that are no vertices; the last ones are near what an
// int, or a word of fewer bits, can hold.
var strangers = []int{-1, -2, math.MinInt, math.MinInt32, api.MaxKey, api.MaxKey + 1, 1 << 31, math.MaxUint32, 1 << 32, 1<<32 + 1, math.MaxInt}

// TestExamples: those of the chapter (P1.1).
func TestExamples(t *testing.T) {
	if k, e := Vertex(3); k != 6442450944 || e != api.OK {
		t.Error("Vertex(3):", k, e)
	}
	if k, e := Edge(3, 0); k != 6442450945 || e != api.OK {
		t.Error("Edge(3, 0):", k, e)
	}
}

// TestVertex: a vertex times 2^31 (P1.1).
func TestVertex(t *testing.T) {
	for _, u := range vertices {
		if k, e := Vertex(u); k != uint64(u)*2147483648 || e != api.OK {
			t.Error(u, k, e)
		}
	}
}

// TestEdge: the first vertex times 2^31, the second, and 1 (P1.1).
func TestEdge(t *testing.T) {
	for _, u := range vertices {
		for _, v := range vertices {
			if k, e := Edge(u, v); k != uint64(u)*2147483648+uint64(v)+1 || e != api.OK {
				t.Error(u, v, k, e)
			}
		}
	}
}

// TestRefused: what is no vertex has no key, at either end (P1.1).
func TestRefused(t *testing.T) {
	for _, x := range strangers {
		if k, e := Vertex(x); k != 0 || e != api.ErrKey {
			t.Error(x, k, e)
		}
		for _, u := range append(vertices, strangers...) {
			if k, e := Edge(x, u); k != 0 || e != api.ErrKey {
				t.Error(x, u, k, e)
			}
			if k, e := Edge(u, x); k != 0 || e != api.ErrKey {
				t.Error(u, x, k, e)
			}
		}
	}
}

// TestSplit: keys are right, and tell what they are of (P1.2).
func TestSplit(t *testing.T) {
	for _, u := range vertices {
		k, _ := Vertex(u)
		if a, b := Split(k); a != u || b != -1 || !Right(k) {
			t.Error(u, k, a, b, Right(k))
		}
		for _, v := range vertices {
			k, _ := Edge(u, v)
			if a, b := Split(k); a != u || b != v || !Right(k) {
				t.Error(u, v, k, a, b, Right(k))
			}
		}
	}
}

// TestNoKey: numbers between the keys of two vertices, and behind the last
// key, are none (P1.2).
func TestNoKey(t *testing.T) {
	var none []uint64
	for _, u := range vertices {
		behind := uint64(u)*2147483648 + api.MaxKey + 1
		next := uint64(u+1) * 2147483648
		none = append(none, behind, behind+1, behind+1<<29, next-1)
	}
	for bit := 61; bit < 64; bit++ {
		// The bits below are a key's: the one alone makes the number too great.
		none = append(none, 1<<bit, 1<<bit+1, 1<<bit+6442450945)
	}
	none = append(none, 1<<61-1, 1<<62-1, math.MaxInt64, math.MaxUint64)
	for _, k := range none {
		if Right(k) {
			t.Error(k)
		}
		Split(k) // of no key nothing is promised, but that it ends
	}
}

// TestBounds: the first and the last numbers that are keys, and those beside
// them (P1.2).
func TestBounds(t *testing.T) {
	last := uint64(api.MaxKey-1)*2147483648 + api.MaxKey
	for _, x := range []struct {
		k    uint64
		want bool
	}{
		{0, true}, {1, true}, {api.MaxKey - 1, true}, {api.MaxKey, true}, {api.MaxKey + 1, false},
		{1<<31 - 1, false}, {1 << 31, true}, {1<<31 + 1, true},
		{last - 1, true}, {last, true}, {last + 1, false},
	} {
		if Right(x.k) != x.want {
			t.Error(x.k, Right(x.k))
		}
	}
}

// TestRightIsSplit: a number is a key just if what it splits into has it
// (P1.1 and P1.2), around all the places where the halves' bits change.
func TestRightIsSplit(t *testing.T) {
	for bit := range 64 {
		for near := -3; near <= 3; near++ {
			for _, low := range []uint64{0, 5, api.MaxKey, api.MaxKey + 1} {
				k := uint64(1)<<bit + uint64(near) + low
				u, v := Split(k)
				again, e := Edge(u, v)
				if v == -1 {
					again, e = Vertex(u)
				}
				if Right(k) != (e == api.OK && again == k) {
					t.Error(k, u, v, again, e, Right(k))
				}
			}
		}
	}
}

// TestOrder: a vertex, its edges by their second vertices, and the next vertex
// (P1.3).
func TestOrder(t *testing.T) {
	var keys []uint64
	for _, u := range vertices {
		k, _ := Vertex(u)
		keys = append(keys, k)
		for _, v := range vertices {
			k, _ := Edge(u, v)
			keys = append(keys, k)
		}
	}
	for i := 1; i < len(keys); i++ {
		if keys[i-1] >= keys[i] {
			t.Error(i, keys[i-1], keys[i])
		}
	}
	for _, u := range vertices[:len(vertices)-1] {
		last, _ := Edge(u, api.MaxKey-1)
		if next, _ := Vertex(u + 1); last >= next {
			t.Error(u, last, next)
		}
	}
}
