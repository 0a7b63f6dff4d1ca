package sfnt_test

import (
	"slices"
	"strconv"
	"testing"

	"versal/api"
	"versal/sample"
	"versal/sfnt"
)

// 14, Examples: Lay of none is opened, and has no tables.
func TestExample(t *testing.T) {
	b, e := sfnt.Lay(nil, nil)
	if e != api.OK {
		t.Fatalf("14.2: of none: error %d", e)
	}
	hold(t, "Lay of none", b, nil, api.OK)
}

// 14.1: fewer than twelve bytes are short, whatever they are; bytes in the
// spare room are not there.
func TestShortHead(t *testing.T) {
	wrong(t, "nil", nil, api.ErrShort)
	for _, mark := range []string{plain, otto, truth, "nope", "\xff\xff\xff\xff"} {
		for _, count := range []int{0, 1, 64, 65, 65535} {
			b := file(mark, count, lines(2))
			for n := range 12 {
				wrong(t, strconv.Itoa(n)+" bytes", b[:n], api.ErrShort)
				wrong(t, strconv.Itoa(n)+" bytes, no spare room", b[:n:n], api.ErrShort)
			}
		}
	}
}

// 14.1: twelve bytes are enough for a font without tables, and more may follow.
func TestNoTables(t *testing.T) {
	for _, mark := range []string{plain, otto, truth} {
		hold(t, "twelve bytes", file(mark, 0), nil, api.OK)
		for n := range 40 {
			hold(t, strconv.Itoa(n)+" behind", file(mark, 0, sample.Bytes(n, n)), nil, api.OK)
		}
		hold(t, "records that are not told of", file(mark, 0, lines(3)), nil, api.OK)
	}
}

// 14.1: the three marks, and no other: each bit of them turned, and marks of
// other kinds of file.
func TestMarks(t *testing.T) {
	marks := []string{plain, otto, truth}
	for _, mark := range marks {
		hold(t, mark, file(mark, 1, line("abcd", 0, 4)), []table{{"abcd", mark}}, api.OK)
		for bit := range 32 {
			b := []byte(mark)
			b[bit/8] ^= 1 << (bit % 8)
			wrong(t, "bit "+strconv.Itoa(bit)+" of "+mark, file(string(b), 0), api.ErrForm)
		}
		for k := range 4 {
			for x := range 256 {
				b := []byte(mark)
				b[k] = byte(x)
				if string(b) != mark {
					wrong(t, strconv.Itoa(x)+" in "+mark, file(string(b), 1, lines(1)), api.ErrForm)
				}
			}
		}
	}
	for _, mark := range []string{"\x00\x00\x00\x00", "\x00\x00\x01\x00", "\x00\x02\x00\x00", "\x01\x00\x00\x00", "ttcf", "typ1", "wOFF", "wOF2", "otto", "TRUE", "True", "OTT0", "OTT\x00", "tru\x00", "eurt", "    ", "\xff\xff\xff\xff"} {
		wrong(t, mark, file(mark, 0), api.ErrForm)
	}
}

// 14.1: the mark is asked ahead of all that is behind it.
func TestMarkFirst(t *testing.T) {
	for _, c := range [][]byte{
		file("nope", 0), file("nope", 1), file("nope", 64), file("nope", 65), file("nope", 65535),
		file("nope", 2, lines(1), lines(1)), file("nope", 1, line("abcd", 99, 99)),
	} {
		wrong(t, "no mark", c, api.ErrForm)
	}
}

// 14.1: of each count: more than MaxTables are too many, whether their records
// are there or not; of fewer all the records have to be there.
func TestCounts(t *testing.T) {
	for _, mark := range []string{plain, otto, truth} {
		for count := range 1 << 16 {
			code := api.ErrShort
			switch {
			case count == 0:
				code = api.OK
			case count > api.MaxTables:
				code = api.ErrBig
			}
			hold(t, strconv.Itoa(count)+" tables, none there", file(mark, count), nil, code)
		}
	}
	for _, count := range []int{65, 66, 127, 128, 255, 256, 257, 512} {
		wrong(t, strconv.Itoa(count)+" tables, all there", file(plain, count, lines(count)), api.ErrBig)
		wrong(t, strconv.Itoa(count)+" tables, all one", file(plain, count, make([]byte, 16*count)), api.ErrBig)
	}
	wrong(t, "too many, far ones", file(plain, 65, line("abcd", 1<<31, 1)), api.ErrBig)
}

// 14.1: as many tables as may be, and each number below.
func TestEachCount(t *testing.T) {
	for count := range api.MaxTables + 1 {
		var want []table
		for k := range count {
			want = append(want, table{tagOf(k), ""})
		}
		hold(t, strconv.Itoa(count)+" tables", file(otto, count, lines(count)), want, api.OK)
		hold(t, "more records behind", file(otto, count, lines(count), lines(9)), want, api.OK)
	}
}

// 14.1: the six bytes behind the count are not asked.
func TestHintsAreNotAsked(t *testing.T) {
	b := file(plain, 1, line("abcd", 28, 2), []byte("xy"))
	for at := 6; at < 12; at++ {
		for x := range 256 {
			c := slices.Clone(b)
			c[at] = byte(x)
			hold(t, "another hint", c, []table{{"abcd", "xy"}}, api.OK)
		}
	}
	hold(t, "hints of one bits", slices.Concat(b[:6], []byte("\xff\xff\xff\xff\xff\xff"), b[12:]), []table{{"abcd", "xy"}}, api.OK)
}
