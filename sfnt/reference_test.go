package sfnt_test

import (
	"bytes"
	"encoding/binary"
	"slices"
	"strings"
	"testing"

	"versal/api"
	"versal/sfnt"
)

const (
	plain = "\x00\x01\x00\x00"
	otto  = "OTTO"
	truth = "true"
)

// file answers what begins with this mark and so many tables, and goes on with
// these bytes.
func file(mark string, count int, behind ...[]byte) []byte {
	head := binary.BigEndian.AppendUint16([]byte(mark), uint16(count))
	return slices.Concat(head, make([]byte, 6), bytes.Join(behind, nil))
}

// line answers a record. Its sum is none that would fit.
func line(tag string, offset, length int) []byte {
	b := binary.BigEndian.AppendUint32([]byte(tag), 0xdeadbeef)
	b = binary.BigEndian.AppendUint32(b, uint32(offset))
	return binary.BigEndian.AppendUint32(b, uint32(length))
}

// tagOf answers a tag that no other k below 65536 has.
func tagOf(k int) string {
	return "T" + string([]byte{byte(k >> 8), byte(k)}) + "!"
}

// lines answers so many records of tables without bytes.
func lines(count int) []byte {
	var b []byte
	for k := range count {
		b = append(b, line(tagOf(k), 0, 0)...)
	}
	return b
}

// table is what a font tells of one.
type table struct {
	tag, bytes string
}

// expected is 14.1 said another way: the library reads the numbers, sums of 64
// bits lead to the tables' ends, and a map tells which tags there were.
func expected(b []byte) ([]table, api.Errno) {
	var head struct {
		Mark  [4]byte
		Count uint16
		Hints [6]byte
	}
	from := bytes.NewReader(b)
	if binary.Read(from, binary.BigEndian, &head) != nil {
		return nil, api.ErrShort
	}
	if !slices.Contains([]string{plain, otto, truth}, string(head.Mark[:])) {
		return nil, api.ErrForm
	}
	if head.Count > 64 {
		return nil, api.ErrBig
	}
	list := make([]struct {
		Tag                 [4]byte
		Sum, Offset, Length uint32
	}, head.Count)
	if binary.Read(from, binary.BigEndian, list) != nil {
		return nil, api.ErrShort
	}
	var tables []table
	were := make(map[[4]byte]bool)
	for _, r := range list {
		end := uint64(r.Offset) + uint64(r.Length)
		if were[r.Tag] {
			return nil, api.ErrForm
		}
		if end > uint64(len(b)) {
			return nil, api.ErrShort
		}
		were[r.Tag] = true
		tables = append(tables, table{string(r.Tag[:]), string(b[r.Offset:end])})
	}
	return tables, api.OK
}

// hold opens b and holds the error, or else the font, against what is wanted.
func hold(t *testing.T, what string, b []byte, want []table, code api.Errno) {
	t.Helper()
	f, e := sfnt.Open(b)
	if e != code {
		t.Fatalf("14.1: %s: error %d, not %d", what, e, code)
	}
	if e != api.OK {
		if f != nil {
			t.Fatalf("R3: %s: a font beside error %d", what, e)
		}
		return
	}
	if f == nil {
		t.Fatalf("14.1: %s: no font", what)
	}
	holdFont(t, what, f, want)
}

// holdFont holds the tags in their order, each table, and that there are no
// others.
func holdFont(t *testing.T, what string, f *sfnt.Font, want []table) {
	t.Helper()
	var tags []string
	for _, w := range want {
		tags = append(tags, w.tag)
		if got, ok := f.Table(w.tag); !ok || string(got) != w.bytes {
			t.Fatalf("14.1: %s: table %q: %.40q, %t, not %.40q", what, w.tag, got, ok, w.bytes)
		}
	}
	if got := f.Tags(); !slices.Equal(got, tags) {
		t.Fatalf("14.1: %s: tags %q, not %q", what, got, tags)
	}
	for _, tag := range strangers(tags) {
		if got, ok := f.Table(tag); ok || got != nil {
			t.Fatalf("14.1: %s: table %q: %.40q, %t", what, tag, got, ok)
		}
	}
}

// strangers answers texts that are like these tags, and none of them.
func strangers(tags []string) []string {
	all := []string{"", " ", "    ", "head", "HEAD", "heads", "\x00\x00\x00\x00", plain, otto, truth}
	for _, tag := range tags {
		all = append(all, tag[:3], tag[1:], tag+" ", " "+tag, tag+"\x00", tag+tag)
		all = append(all, tag[3:]+tag[:3], strings.ToUpper(tag), strings.ToLower(tag))
		for k := range 4 {
			turned := []byte(tag)
			turned[k] ^= 1
			all = append(all, string(turned))
		}
	}
	return slices.DeleteFunc(all, func(s string) bool { return slices.Contains(tags, s) })
}

// wrong holds an error.
func wrong(t *testing.T, what string, b []byte, code api.Errno) {
	t.Helper()
	hold(t, what, b, nil, code)
}

// holdExpected holds what b is expected to be, and answers its error.
func holdExpected(t *testing.T, what string, b []byte) api.Errno {
	t.Helper()
	want, code := expected(b)
	hold(t, what, b, want, code)
	return code
}
