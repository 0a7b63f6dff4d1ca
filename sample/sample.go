// Package sample: what the tests of many packages begin with. It is no layer,
// and no layer calls it.
package sample

import (
	"maps"
	"slices"

	"versal/api"
	"versal/sfnt"
)

// Source answers a function whose numbers, from 0 to n - 1, are unlike one
// another, and the same ones each time for a seed. Of an n below 1 it is 0.
func Source(seed int) func(n int) int {
	state := uint64(seed)*2654435761 + 1
	return func(n int) int {
		if n < 1 {
			return 0
		}
		state = state*6364136223846793005 + 1442695040888963407
		return int(state >> 33 % uint64(n))
	}
}

// Bytes answers n bytes that are unlike one another, the same ones each time
// for a seed.
func Bytes(n, seed int) []byte {
	b := make([]byte, max(n, 0))
	pick := Source(seed)
	for k := range b {
		b[k] = byte(pick(256))
	}
	return b
}

// File answers the bytes of a font of these tables, in the order of their
// tags; nil, if there is no such font.
func File(tables map[string][]byte) []byte {
	tags := slices.Sorted(maps.Keys(tables))
	bodies := make([][]byte, len(tags))
	for k, tag := range tags {
		bodies[k] = tables[tag]
	}
	b, _ := sfnt.Lay(tags, bodies)
	return b
}

// Font answers a font of these tables; nil, if there is none.
func Font(tables map[string][]byte) *sfnt.Font {
	f, e := sfnt.Open(File(tables))
	if e != api.OK {
		return nil
	}
	return f
}
