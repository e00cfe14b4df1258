// Package key is layer 1: see shared/doc/01-key.md.
package key

import (
	"weald/api"
)

const halfBits = 31

// Where the halves of a key begin, from its lowest bit on. The first vertex
// has the upper half, so that a vertex's edges stand between it and the next.
const (
	second = iota * halfBits
	first
)

// Vertex is a vertex's key.
func Vertex(u int) (uint64, api.Errno) {
	if !isVertex(u) {
		return 0, api.ErrKey
	}
	return uint64(u) << first, api.OK
}

// Edge is an edge's key.
func Edge(u, v int) (uint64, api.Errno) {
	if !isVertex(u) || !isVertex(v) {
		return 0, api.ErrKey
	}
	// A lower half of 0 is the vertex itself, so that of an edge is 1 more than v.
	return uint64(u)<<first + uint64(v+1)<<second, api.OK
}

// Right: is a number a key?
func Right(k uint64) bool {
	u, next := halves(k)
	return u < api.MaxKey && next <= api.MaxKey
}

// Split is what a key is of.
func Split(k uint64) (int, int) {
	u, next := halves(k)
	return int(u), int(next) - 1
}

// isVertex: may a number be a vertex?
func isVertex(u int) bool { return u >= 0 && u < api.MaxKey }

// halves are the first vertex, and 1 more than the second (0, if there is none).
func halves(k uint64) (uint64, uint64) {
	// The upper half keeps all bits above it, so that a number too great for a key shows.
	return k >> first, k >> second & (1<<halfBits - 1)
}
