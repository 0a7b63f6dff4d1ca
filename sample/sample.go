// Package sample: what the tests of many packages begin with. It is no layer,
// and no layer calls it.
package sample

import (
	"maps"
	"slices"

	"versal/api"
	"versal/sfnt"
)

// Source answers a function whose numbers, from 0 to n - 1, are unlike one
// another, and the same ones each time for a seed. Of an n below 1 it is 0.
func Source(seed int) func(n int) int {
	state := uint64(seed)*2654435761 + 1
	return func(n int) int {
		if n < 1 {
			return 0
		}
		state = state*6364136223846793005 + 1442695040888963407
		return int(state >> 33 % uint64(n))
	}
}

// Bytes answers n bytes that are unlike one another, the same ones each time
// for a seed.
func Bytes(n, seed int) []byte {
	b := make([]byte, max(n, 0))
	pick := Source(seed)
	for k := range b {
		b[k] = byte(pick(256))
	}
	return b
}

// Words answers numbers of two bytes each, the higher one first.
func Words(numbers ...int) []byte {
	var b []byte
	for _, n := range numbers {
		b = append(b, byte(n>>8), byte(n))
	}
	return b
}

// Longs answers numbers of four bytes each, the highest first.
func Longs(numbers ...int) []byte {
	var b []byte
	for _, n := range numbers {
		b = append(b, Words(n>>16, n)...)
	}
	return b
}

// Glyphs answers the tables of a font of these glyphs' bytes, one behind the
// other, that tell where each of them is: loca's entries are long.
func Glyphs(glyphs ...[]byte) map[string][]byte {
	var all []byte
	ends := []int{0}
	for _, b := range glyphs {
		all = append(all, b...)
		ends = append(ends, len(all))
	}
	return map[string][]byte{"glyf": all, "loca": Longs(ends...)}
}

// File answers the bytes of a font of these tables, in the order of their
// tags; nil, if there is no such font.
func File(tables map[string][]byte) []byte {
	tags := slices.Sorted(maps.Keys(tables))
	bodies := make([][]byte, len(tags))
	for k, tag := range tags {
		bodies[k] = tables[tag]
	}
	b, _ := sfnt.Lay(tags, bodies)
	return b
}

// Font answers a font of these tables; nil, if there is none.
func Font(tables map[string][]byte) *sfnt.Font {
	f, e := sfnt.Open(File(tables))
	if e != api.OK {
		return nil
	}
	return f
}
