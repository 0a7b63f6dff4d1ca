package sfnt_test

import (
	"encoding/binary"
	"slices"
	"testing"

	"versal/api"
	"versal/sample"
)

// some answers a font of up to eight tables, most of them where they may be.
func some(seed int) []byte {
	pick := sample.Source(seed)
	count, room := pick(9), pick(60)
	end := 12 + 16*count + room
	var list []byte
	for range count {
		offset := pick(end + 1)
		length := pick(end - offset + 1)
		list = append(list, line(tagOf(pick(90)), offset, length)...)
	}
	mark := []string{plain, otto, truth}[pick(3)]
	return file(mark, count, list, sample.Bytes(room, seed))
}

// turn changes one thing of a font.
func turn(b []byte, pick func(n int) int) []byte {
	b = slices.Clone(b)
	records := min(int(binary.BigEndian.Uint16(b[4:])), (len(b)-12)/16)
	switch pick(7) {
	case 0:
		return b[:pick(len(b)+1)]
	case 1:
		b[pick(12)] ^= 1 << pick(8)
	case 2:
		b[pick(len(b))] ^= 1 << pick(8)
	case 3:
		binary.BigEndian.PutUint16(b[4:], uint16(pick(70)))
	case 4, 5:
		if records > 0 {
			at := 12 + 16*pick(records) + 8 + 4*pick(2)
			near := []int{0, len(b), 1 << 31, 1<<32 - len(b)}[pick(4)] + pick(5) - 2
			binary.BigEndian.PutUint32(b[at:], uint32(near))
		}
	}
	return b
}

// 14.1: fonts of all kinds, some with things turned, held against another
// reading of the chapter.
func TestTurned(t *testing.T) {
	seen := make(map[api.Errno]int)
	for seed := range 40000 {
		b := some(seed)
		pick := sample.Source(seed + 1<<20)
		for range pick(3) {
			if len(b) >= 12 {
				b = turn(b, pick)
			}
		}
		seen[holdExpected(t, "turned", b)]++
	}
	for _, e := range []api.Errno{api.OK, api.ErrForm, api.ErrShort, api.ErrBig} {
		if seen[e] < 500 {
			t.Errorf("error %d: %d times", e, seen[e])
		}
	}
}

// 14.1, R1: any bytes at all, alone and behind a head.
func TestAnyBytes(t *testing.T) {
	for seed := range 10000 {
		b := sample.Bytes(sample.Source(seed)(90), seed)
		holdExpected(t, "any bytes", b)
		for _, mark := range []string{plain, otto, truth} {
			holdExpected(t, "any bytes behind a mark", append([]byte(mark), b...))
			holdExpected(t, "any records", file(mark, seed%6, b))
		}
	}
}
