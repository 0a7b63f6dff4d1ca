package sfnt_test

import (
	"bytes"
	"slices"
	"strconv"
	"testing"

	"versal/api"
	"versal/sample"
	"versal/sfnt"
)

// 14.1: records that end just at the last byte are there; one byte fewer, or
// more of them missing, and they are not, ahead of what they say.
func TestRecordsCutOff(t *testing.T) {
	for count := 1; count <= api.MaxTables; count++ {
		for what, list := range map[string][]byte{
			"in order": lines(count),
			"all one":  bytes.Repeat(line("abcd", 0, 0), count),
			"all far":  bytes.Repeat(line("abcd", 1<<32-1, 1<<32-1), count),
		} {
			b := file(truth, count, list)
			for n := 12; n < len(b); n++ {
				wrong(t, what+", cut off at "+strconv.Itoa(n), b[:n], api.ErrShort)
			}
			holdExpected(t, what, b)
		}
		holdExpected(t, "one byte behind", file(truth, count, lines(count), []byte{7}))
	}
}

// 14.1: each offset and length about a short file: just to the end is there,
// one byte beyond is not; at the end is a table without bytes.
func TestOffsetsAndLengths(t *testing.T) {
	for _, room := range []int{0, 1, 5} {
		end := 28 + room
		for offset := range end + 4 {
			for length := range end + 4 {
				b := file(plain, 1, line("abcd", offset, length), sample.Bytes(room, room))
				what := strconv.Itoa(length) + " from " + strconv.Itoa(offset) + " on"
				if offset+length > end {
					wrong(t, what, b, api.ErrShort)
					continue
				}
				hold(t, what, b, []table{{"abcd", string(b[offset : offset+length])}}, api.OK)
			}
		}
	}
}

// edges are numbers about which a sum of two, or a sign, may go wrong.
func edges() []int {
	var all []int
	for _, n := range []int{1 << 16, 1 << 24, 1 << 31, 3 << 30, 1 << 32} {
		for k := -40; k <= 40; k++ {
			if n+k < 1<<32 {
				all = append(all, n+k)
			}
		}
	}
	return all
}

// 14.1, R1: far offsets and lengths lead beyond the end, though a sum of 32
// bits, or one with a sign, would lead back inside.
func TestFar(t *testing.T) {
	for _, far := range edges() {
		for _, near := range []int{0, 1, 2, 12, 27, 28, 31, 32, 33, 40, 41} {
			wrong(t, "a far offset", file(plain, 1, line("abcd", far, near), []byte("wxyz")), api.ErrShort)
			wrong(t, "a far length", file(plain, 1, line("abcd", near, far), []byte("wxyz")), api.ErrShort)
		}
	}
	for _, offset := range edges() {
		for _, length := range edges() {
			b := file(plain, 1, line("abcd", offset, length), []byte("wxyz"))
			if f, e := sfnt.Open(b); e != api.ErrShort || f != nil {
				t.Fatalf("14.1: %d from %d on: error %d", length, offset, e)
			}
		}
	}
}

// 14.1: sums that are just 2^32, or some more.
func TestWrappedSums(t *testing.T) {
	for offset := range 1 << 12 {
		for _, more := range []int{0, 1, 27, 28} {
			length := 1<<32 - offset + more
			if length >= 1<<32 {
				continue
			}
			wrong(t, "a far length", file(plain, 1, line("abcd", offset, length)), api.ErrShort)
			wrong(t, "a far offset", file(plain, 1, line("abcd", length, offset)), api.ErrShort)
		}
	}
}

// 14.1: each byte of an offset and a length counts, the highest first.
func TestGreatNumbers(t *testing.T) {
	size := 0x01020304 + 0x00010203
	b := slices.Concat(file(plain, 2, line("abcd", 0x01020304, 0x00010203), line("efgh", 0x00000201, 0x01000001)), make([]byte, size))[:size]
	for _, at := range []int{0x01020303, 0x01020304, 0x01020305, size - 1, 0x201, 0x202, 0x01000201, 0x01000202} {
		b[at] = byte(1 + at%251)
	}
	want := []table{{"abcd", string(b[0x01020304:])}, {"efgh", string(b[0x201:0x01000202])}}
	hold(t, "many bytes", b, want, api.OK)
	wrong(t, "many bytes, one fewer", b[:size-1], api.ErrShort)
}

// 14.1: tables may stand anywhere: in any order, over one another, over the
// head and the records, with bytes between and behind, twice the same.
func TestAnywhere(t *testing.T) {
	list := slices.Concat(
		line("last", 130, 4), line("none", 0, 0), line("head", 0, 12), line("recs", 12, 112),
		line("part", 131, 2), line("same", 130, 4), line("full", 0, 137))
	b := file(otto, 7, list, []byte("......first..")) // behind 124 bytes
	var want []table
	for _, w := range []struct {
		tag      string
		from, to int
	}{{"last", 130, 134}, {"none", 0, 0}, {"head", 0, 12}, {"recs", 12, 124}, {"part", 131, 133}, {"same", 130, 134}, {"full", 0, 137}} {
		want = append(want, table{w.tag, string(b[w.from:w.to])})
	}
	if len(b) != 137 || want[0].bytes != "firs" || want[4].bytes != "ir" {
		t.Fatalf("the file is %d bytes, %q, %q", len(b), want[0].bytes, want[4].bytes)
	}
	hold(t, "anywhere", b, want, api.OK)
	wrong(t, "anywhere, one byte fewer", b[:136], api.ErrShort)
}

// 14.1: the tags are in the records' order, not in theirs, nor in the tables'.
func TestRecordsOrder(t *testing.T) {
	tags := []string{"zzzz", "aaaa", "ZZZZ", "mmmm", "    ", "\xff\xff\xff\xff", "\x00\x00\x00\x00", "AAAA"}
	for turn := range tags {
		order := slices.Concat(tags[turn:], tags[:turn])
		var list []byte
		var want []table
		for k, tag := range order {
			at := 12 + 16*8 + 7 - k
			list = append(list, line(tag, at, 1)...)
			want = append(want, table{tag, string("abcdefgh"[7-k])})
		}
		hold(t, "turned by "+strconv.Itoa(turn), file(plain, 8, list, []byte("abcdefgh")), want, api.OK)
	}
}

// 14.1: a tag is any four bytes; tags that are alike but for a case, a space or
// a bit are not the same.
func TestTagsThatAreAlike(t *testing.T) {
	tags := []string{
		"abcd", "ABCD", "Abcd", "abcD", "abc ", " abc", "abce", "dcba", "ab\x00\x00", "abc\x00", "\x00abc", "\x00\x00\x00\x00", "    ", "\xff\xfe\xfd\xfc", "\xef\xbf\xbd!", "é12", "12é", "\xc3\xa9\xc3\xa9", "\xc3\x28\xa9\xc3", "a\xcc\x81b"}
	var list []byte
	var want []table
	for k, tag := range tags {
		list = append(list, line(tag, k, 12)...)
	}
	b := file(plain, len(tags), list)
	for k, tag := range tags {
		want = append(want, table{tag, string(b[k : k+12])})
	}
	hold(t, "alike", b, want, api.OK)
}

// 14.1: a tag that comes twice, at each two places among several.
func TestTwice(t *testing.T) {
	for count := 2; count <= 9; count++ {
		for later := range count {
			for earlier := range later {
				list := lines(count)
				copy(list[16*later:], tagOf(earlier))
				what := strconv.Itoa(earlier) + " and " + strconv.Itoa(later)
				wrong(t, what, file(plain, count, list), api.ErrForm)
			}
		}
	}
	for _, k := range []int{0, 1, 31, 62} {
		list := lines(64)
		copy(list[16*63:], tagOf(k))
		wrong(t, "the last of 64", file(plain, 64, list), api.ErrForm)
	}
	for _, tag := range []string{"\x00\x00\x00\x00", "    ", "\xff\xfe\xfd\xfc", "glyf"} {
		wrong(t, tag, file(plain, 2, line(tag, 0, 1), line(tag, 0, 1)), api.ErrForm)
		wrong(t, tag+", other places", file(plain, 2, line(tag, 0, 1), line(tag, 9, 2)), api.ErrForm)
		wrong(t, tag+", no bytes", file(plain, 2, line(tag, 44, 0), line(tag, 44, 0)), api.ErrForm)
	}
}

// 14.1: of two errors the first: record by record, and in one record the tag
// ahead of where its table stands.
func TestTwoErrors(t *testing.T) {
	for _, c := range []struct {
		what string
		list []byte
		code api.Errno
	}{
		{"twice, and beyond", slices.Concat(line("abcd", 0, 0), line("abcd", 99, 9)), api.ErrForm},
		{"twice, and far beyond", slices.Concat(line("abcd", 0, 0), line("abcd", 1<<32-1, 1<<32-1)), api.ErrForm},
		{"beyond, then twice", slices.Concat(line("abcd", 99, 9), line("abcd", 0, 0)), api.ErrShort},
		{"beyond, then twice among others", slices.Concat(line("abcd", 0, 0), line("efgh", 99, 9), line("abcd", 0, 0)), api.ErrShort},
		{"twice, then beyond", slices.Concat(line("abcd", 0, 0), line("abcd", 0, 0), line("efgh", 99, 9)), api.ErrForm},
		{"beyond, and beyond again by that tag", slices.Concat(line("abcd", 99, 9), line("abcd", 99, 9)), api.ErrShort},
		{"the last beyond", slices.Concat(line("abcd", 0, 0), line("efgh", 0, 0), line("ijkl", 60, 1)), api.ErrShort},
		{"the last twice", slices.Concat(line("abcd", 0, 60), line("efgh", 60, 0), line("efgh", 0, 0)), api.ErrForm},
	} {
		wrong(t, c.what, file(plain, len(c.list)/16, c.list), c.code)
		b := file(plain, len(c.list)/16, c.list)
		wrong(t, c.what+", cut off", b[:len(b)-1], api.ErrShort)
		wrong(t, c.what+", of another mark", slices.Concat([]byte("nope"), b[4:]), api.ErrForm)
		wrong(t, c.what+", too many", slices.Concat(b[:4], []byte{0, 65}, b[6:]), api.ErrBig)
	}
}

// 14.1: sums are not asked.
func TestSumsAreNotAsked(t *testing.T) {
	for seed := range 200 {
		sum := sample.Bytes(4, seed)
		b := file(plain, 1, line("abcd", 28, 5), []byte("hello"))
		copy(b[16:], sum)
		hold(t, "a sum", b, []table{{"abcd", "hello"}}, api.OK)
	}
	for _, sum := range []string{"\x00\x00\x00\x00", "\xff\xff\xff\xff", "\x7f\xff\xff\xff", "\x80\x00\x00\x00"} {
		b := file(plain, 2, line("abcd", 44, 5), line("head", 0, 12), []byte("hello"))
		copy(b[16:], sum)
		copy(b[32:], sum)
		hold(t, "a sum", b, []table{{"abcd", "hello"}, {"head", string(b[:12])}}, api.OK)
	}
}

// R1: a nil font has no table and no tags.
func TestNilFont(t *testing.T) {
	var f *sfnt.Font
	for _, tag := range []string{"", "abcd", "head", "    "} {
		if got, ok := f.Table(tag); ok || got != nil {
			t.Errorf("R1: table %q of a nil font: %q", tag, got)
		}
	}
	if got := f.Tags(); len(got) != 0 {
		t.Errorf("R1: tags of a nil font: %q", got)
	}
}
