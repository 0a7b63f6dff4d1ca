package sfnt_test

import (
	"bytes"
	"encoding/binary"
	"slices"
	"strconv"
	"strings"
	"testing"

	"versal/api"
	"versal/sample"
	"versal/sfnt"
)

// laid is 14.2 said another way: each offset is looked for anew, as the length
// of what lies ahead.
func laid(tags []string, tables [][]byte) []byte {
	b := append([]byte(plain), 0, byte(len(tags)), 0, 0, 0, 0, 0, 0)
	for k, tag := range tags {
		ahead := 12 + 16*len(tags) + len(bytes.Join(tables[:k], nil))
		b = append(b, tag...)
		b = append(b, 0, 0, 0, 0)
		b = binary.BigEndian.AppendUint32(b, uint32(ahead))
		b = binary.BigEndian.AppendUint32(b, uint32(len(tables[k])))
	}
	return append(b, bytes.Join(tables, nil)...)
}

// holdLay lays a font, holds its bytes, and opens it again.
func holdLay(t *testing.T, what string, tags []string, tables [][]byte) {
	t.Helper()
	b, e := sfnt.Lay(tags, tables)
	if e != api.OK {
		t.Fatalf("14.2: %s: error %d", what, e)
	}
	if want := laid(tags, tables); !bytes.Equal(b, want) {
		t.Fatalf("14.2: %s: % .80x, not % .80x", what, b, want)
	}
	var want []table
	for k, tag := range tags {
		want = append(want, table{tag, string(tables[k])})
	}
	hold(t, what, b, want, api.OK)
}

// manyTags answers so many tags.
func manyTags(count int) []string {
	var tags []string
	for k := range count {
		tags = append(tags, tagOf(k*7919%65536))
	}
	return tags
}

// 14.2: byte by byte as it is written.
func TestLaidBytes(t *testing.T) {
	for _, c := range []struct {
		tags   []string
		tables [][]byte
		want   string
	}{
		{nil, nil, "\x00\x01\x00\x00" + "\x00\x00" + "\x00\x00\x00\x00\x00\x00"},
		{[]string{"abcd"}, [][]byte{[]byte("hey")}, "\x00\x01\x00\x00" + "\x00\x01" + "\x00\x00\x00\x00\x00\x00" +
			"abcd" + "\x00\x00\x00\x00" + "\x00\x00\x00\x1c" + "\x00\x00\x00\x03" + "hey"},
		{[]string{"zz  ", "aa  ", "mm  "}, [][]byte{[]byte("hello"), nil, []byte("x")}, "\x00\x01\x00\x00" + "\x00\x03" + "\x00\x00\x00\x00\x00\x00" +
			"zz  " + "\x00\x00\x00\x00" + "\x00\x00\x00\x3c" + "\x00\x00\x00\x05" +
			"aa  " + "\x00\x00\x00\x00" + "\x00\x00\x00\x41" + "\x00\x00\x00\x00" +
			"mm  " + "\x00\x00\x00\x00" + "\x00\x00\x00\x41" + "\x00\x00\x00\x01" + "hellox"},
	} {
		if b, e := sfnt.Lay(c.tags, c.tables); e != api.OK || string(b) != c.want {
			t.Errorf("14.2: of %q: %q, %d", c.tags, b, e)
		}
		holdLay(t, "as written", c.tags, c.tables)
	}
}

// 14.2: tables of each short length, alone and behind one another: nothing
// lies between them, nor behind.
func TestLayLengths(t *testing.T) {
	for n := range 70 {
		holdLay(t, strconv.Itoa(n)+" bytes", []string{"abcd"}, [][]byte{sample.Bytes(n, n)})
	}
	for a := range 9 {
		for b := range 9 {
			for c := range 9 {
				tables := [][]byte{sample.Bytes(a, 1), sample.Bytes(b, 2), sample.Bytes(c, 3)}
				holdLay(t, "three", []string{"c   ", "a   ", "b   "}, tables)
			}
		}
	}
}

// 14.2: each number of tables up to MaxTables.
func TestLayCounts(t *testing.T) {
	for count := range api.MaxTables + 1 {
		tables := make([][]byte, count)
		holdLay(t, strconv.Itoa(count)+" without bytes", manyTags(count), tables)
		for k := range tables {
			tables[k] = sample.Bytes((k*k+count)%37, k)
		}
		holdLay(t, strconv.Itoa(count)+" tables", manyTags(count), tables)
	}
}

// 14.2: lengths and offsets of which each byte counts.
func TestLayMany(t *testing.T) {
	tables := [][]byte{sample.Bytes(0x0102, 1), make([]byte, 0x01020304), {1, 2, 3}, sample.Bytes(0x010203, 2), {}, {9}}
	tables[1][0], tables[1][0x01020303] = 7, 8
	holdLay(t, "many bytes", manyTags(6), tables)
}

// 14.2: a tag is any four bytes, and tags are not sorted.
func TestLayAnyTags(t *testing.T) {
	tags := []string{"\xff\xfe\xfd\xfc", "\x00\x00\x00\x00", "é12", "    ", "abcd", "ABCD", "abc ", "\xc3\xa9\xc3\xa9", plain, otto, truth}
	tables := make([][]byte, len(tags))
	for k := range tables {
		tables[k] = sample.Bytes(k%5, k)
	}
	holdLay(t, "any tags", tags, tables)
	slices.Reverse(tags)
	holdLay(t, "any tags, the other way about", tags, tables)
}

// 14.2: one table's bytes may be another's too, and nil is as an empty one.
func TestLaySharedTables(t *testing.T) {
	b := []byte("hello there")
	holdLay(t, "shared", []string{"aaaa", "bbbb", "cccc"}, [][]byte{b, b[2:7], b})
	one, _ := sfnt.Lay([]string{"aaaa", "bbbb"}, [][]byte{nil, b})
	two, _ := sfnt.Lay([]string{"aaaa", "bbbb"}, [][]byte{{}, b})
	if !bytes.Equal(one, two) {
		t.Errorf("R2: nil and empty: %q, %q", one, two)
	}
	holdLay(t, "empty lists", []string{}, [][]byte{})
	holdLay(t, "no tags, empty tables", nil, [][]byte{})
	holdLay(t, "empty tags, no tables", []string{}, nil)
}

// refuse holds what Lay refuses, with nothing beside the error.
func refuse(t *testing.T, what string, tags []string, tables int) {
	t.Helper()
	b, e := sfnt.Lay(tags, slices.Repeat([][]byte{[]byte("hello")}, tables))
	if e != api.ErrArg || b != nil {
		t.Errorf("14.2, R3: %s: %d bytes, error %d", what, len(b), e)
	}
}

// 14.2: tags and tables that are not as many.
func TestLayNotAsMany(t *testing.T) {
	for tags := range 67 {
		for tables := range 67 {
			if tags != tables {
				refuse(t, strconv.Itoa(tags)+" tags, "+strconv.Itoa(tables)+" tables", manyTags(tags), tables)
			}
		}
	}
}

// 14.2: more than MaxTables.
func TestLayTooMany(t *testing.T) {
	for _, count := range []int{65, 66, 128, 255, 256, 257, 300, 65535, 65536} {
		refuse(t, strconv.Itoa(count), manyTags(count), count)
	}
}

// 14.2: a tag that has not four bytes, at each place; a rune may have more
// than one byte.
func TestLayWrongTags(t *testing.T) {
	for _, tag := range []string{"", "a", "ab", "abc", "   ", "abcde", "     ", "abcdabcd", "é", "éa", "éab ", "abcé", "ééé", "éééé", "日本", "日本語字", "\x00\x00\x00", "\x00\x00\x00\x00\x00", strings.Repeat("abcd", 99)} {
		for count := 1; count <= 5; count++ {
			for k := range count {
				tags := manyTags(count)
				tags[k] = tag
				refuse(t, strconv.Quote(tag), tags, count)
			}
		}
		tags := manyTags(64)
		tags[63] = tag
		refuse(t, strconv.Quote(tag)+", the last of 64", tags, 64)
	}
}

// 14.2: a tag that comes twice, at each two places.
func TestLayTwice(t *testing.T) {
	for _, count := range []int{2, 3, 7, 64} {
		for later := range count {
			for earlier := range later {
				tags := manyTags(count)
				tags[later] = tags[earlier]
				refuse(t, strconv.Itoa(earlier)+" and "+strconv.Itoa(later), tags, count)
			}
		}
	}
	refuse(t, "zeros", []string{"\x00\x00\x00\x00", "abcd", "\x00\x00\x00\x00"}, 3)
	refuse(t, "not written in UTF-8", []string{"\xff\xfe\xfd\xfc", "\xff\xfe\xfd\xfc"}, 2)
}

// 14.1, 14.2: fonts of any tables, laid, opened and laid again.
func TestLaidAgain(t *testing.T) {
	for seed := range 2000 {
		pick := sample.Source(seed)
		tags := manyTags(pick(12))
		var tables [][]byte
		for k := range tags {
			tables = append(tables, sample.Bytes(pick(50), seed+k))
		}
		holdLay(t, "any", tags, tables)
		b, _ := sfnt.Lay(tags, tables)
		f, _ := sfnt.Open(b)
		var again [][]byte
		for _, tag := range f.Tags() {
			body, _ := f.Table(tag)
			again = append(again, body)
		}
		if c, e := sfnt.Lay(f.Tags(), again); e != api.OK || !bytes.Equal(b, c) {
			t.Fatalf("14.2: laid again: error %d", e)
		}
	}
}
