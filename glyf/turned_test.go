package glyf_test

import (
	"math"
	"slices"
	"testing"

	"versal/api"
	"versal/metric"
	"versal/sample"
	"versal/sfnt"
)

// someFont answers glyphs of all kinds: most of the components lead to glyphs
// behind theirs.
func someFont(pick func(n int) int) [][]byte {
	count := 1 + pick(8)
	var glyphs [][]byte
	for k := range count {
		switch pick(8) {
		case 0:
			glyphs = append(glyphs, nil)
		case 1, 2, 3:
			glyphs = append(glyphs, someComponents(pick, k, count))
		default:
			glyphs = append(glyphs, drawn(someContours(pick), pick))
		}
	}
	return glyphs
}

// someComponents answers the bytes of glyph k, of so many, as a composite.
func someComponents(pick func(n int) int, k, count int) []byte {
	var parts []byte
	most := 1 + pick(4)
	for left := most; left > 0; left-- {
		flags := 0x02 | pick(2) | pick(256)<<8 | pick(2)*0x14
		if left > 1 {
			flags |= 0x20
		}
		behind := sample.Bytes(2+flags&1*2, pick(1<<20))
		switch pick(5) {
		case 0:
			flags |= 0x08 | pick(4)<<6
			behind = append(behind, sample.Bytes(2, pick(1<<20))...)
		case 1:
			flags |= 0x40 | pick(2)<<7
			behind = append(behind, sample.Bytes(4, pick(1<<20))...)
		case 2:
			flags |= 0x80
			behind = append(behind, sample.Bytes(8, pick(1<<20))...)
		}
		glyph := k + 1 + pick(max(count-k-1, 1))
		if pick(12) == 0 {
			glyph = pick(count + 1)
		}
		parts = append(parts, part(flags, glyph, behind)...)
	}
	return slices.Concat(sample.Words(-1-pick(32768)), sample.Bytes(8, most), parts)
}

// turn changes one thing of the glyphs.
func turn(glyphs [][]byte, pick func(n int) int) {
	k := pick(len(glyphs))
	b := glyphs[k]
	switch pick(8) {
	case 0:
		glyphs[k] = b[:pick(len(b)+1)]
	case 1:
		glyphs[k] = append(b, sample.Bytes(pick(9), pick(99))...)
	case 2:
		if len(b) > 1 {
			copy(b, sample.Words(pick(6)-2))
		}
	case 3:
		if len(b) > 12 {
			b[10+pick(3)] = byte(pick(256))
		}
	default:
		if len(b) > 0 {
			b[pick(len(b))] ^= 1 << pick(8)
		}
	}
}

// heldAll holds the outline of each glyph, and of some that are none, and
// counts the errors.
func heldAll(t *testing.T, what string, f *sfnt.Font, m metric.Metric, told map[api.Errno]int) {
	t.Helper()
	for glyph := -1; glyph <= min(m.Glyphs, 9); glyph++ {
		want, e := expected(f, m, glyph)
		hold(t, "16.1, 16.2", what, f, m, glyph, want, e)
		told[e]++
	}
}

// 16.1, 16.2: glyphs of all kinds, some of them with things turned, held
// against another reading of the chapter.
func TestTurned(t *testing.T) {
	told := make(map[api.Errno]int)
	for seed := range 12000 {
		pick := sample.Source(seed)
		glyphs := someFont(pick)
		for range pick(4) {
			turn(glyphs, pick)
		}
		f, m := of(t, glyphs...)
		heldAll(t, "turned", f, m, told)
	}
	for _, e := range []api.Errno{api.OK, api.ErrArg, api.ErrForm, api.ErrShort, api.ErrCycle, api.ErrBudget} {
		if told[e] < 300 {
			t.Errorf("error %d: %d times of %v", e, told[e], told)
		}
	}
}

// 16.1, 16.2: fonts whose loca and Metric are turned.
func TestTurnedTables(t *testing.T) {
	told := make(map[api.Errno]int)
	for seed := range 6000 {
		pick := sample.Source(seed)
		glyphs := someFont(pick)
		l := sample.Glyphs(glyphs...)
		m := metric.Metric{Glyphs: len(glyphs), Long: true}
		switch pick(6) {
		case 0:
			delete(l, []string{"loca", "glyf"}[pick(2)])
		case 1:
			l["loca"] = l["loca"][:pick(len(l["loca"]))]
		case 2:
			l["loca"][pick(len(l["loca"]))] ^= 1 << pick(8)
		case 3:
			l["glyf"] = l["glyf"][:pick(len(l["glyf"])+1)]
		case 4:
			m.Glyphs = []int{0, -1, pick(9), math.MaxInt}[pick(4)]
		case 5:
			m.Long = false
		}
		heldAll(t, "turned tables", sample.Font(l), m, told)
	}
	for _, e := range []api.Errno{api.OK, api.ErrArg, api.ErrForm, api.ErrShort, api.ErrNone} {
		if told[e] < 300 {
			t.Errorf("error %d: %d times of %v", e, told[e], told)
		}
	}
}

// R1: glyphs of any bytes.
func TestAnyBytes(t *testing.T) {
	for seed := range 20000 {
		pick := sample.Source(seed)
		var glyphs [][]byte
		for range 1 + pick(4) {
			b := sample.Bytes(pick(60), pick(1<<30))
			if len(b) > 13 && pick(4) > 0 {
				copy(b, sample.Words(pick(4)-1))
				b[10], b[12] = 0, 0
			}
			glyphs = append(glyphs, b)
		}
		f, m := of(t, glyphs...)
		heldAll(t, "any bytes", f, m, make(map[api.Errno]int))
	}
}
