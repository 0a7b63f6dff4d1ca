package sfnt_test

import (
	"bytes"
	"slices"
	"testing"

	"versal/api"
	"versal/sample"
	"versal/sfnt"
)

// layered answers a font whose tables lie over one another and over all.
func layered() []byte {
	return file(plain, 4, line("abcd", 76, 6), line("full", 0, 82), line("part", 78, 3), line("none", 82, 0), []byte("hello!"))
}

// spoil turns each byte of an answer and of its spare room, and goes on behind it.
func spoil(b []byte) {
	room := b[:cap(b)]
	for k := range room {
		room[k] ^= 0xff
	}
	_ = append(b, "zzz"...)
}

// R2: Open leaves what is handed in as it was, what lies about it included,
// also beside an error.
func TestOpenChangesNothing(t *testing.T) {
	for _, b := range [][]byte{nil, layered(), file("nope", 0), file(plain, 65), file(plain, 2, lines(1), lines(1)), file(plain, 1, line("abcd", 99, 9))} {
		whole := slices.Concat(sample.Bytes(9, 1), b, sample.Bytes(90, 2))
		before := bytes.Clone(whole)
		for _, n := range []int{len(b), max(0, len(b)-1), len(b) / 2, len(b) + 1} {
			for _, part := range [][]byte{whole[9 : 9+n], whole[9 : 9+n : 9+n]} {
				f, _ := sfnt.Open(part)
				for _, tag := range f.Tags() {
					f.Table(tag)
				}
			}
		}
		if !bytes.Equal(whole, before) {
			t.Errorf("R2: %q was changed", b)
		}
	}
}

// R2: bytes that are turned behind Open change no answer.
func TestOpenKeepsNothing(t *testing.T) {
	want, _ := expected(layered())
	whole := slices.Concat(sample.Bytes(9, 1), layered(), sample.Bytes(9, 2))
	b := whole[9 : 9+len(layered())]
	f, e := sfnt.Open(b)
	if e != api.OK {
		t.Fatalf("error %d", e)
	}
	for _, x := range []byte{0x01, 0xff, 0x80} {
		for k := range whole {
			whole[k] ^= x
		}
		holdFont(t, "turned", f, want)
	}
	clear(whole)
	holdFont(t, "cleared", f, want)
}

// R2: bytes that are turned one at a time change no answer either.
func TestOpenKeepsNoByte(t *testing.T) {
	want, _ := expected(layered())
	for at := range layered() {
		b := layered()
		f, _ := sfnt.Open(b)
		b[at] ^= 0xff
		holdFont(t, "turned", f, want)
	}
}

// R2: a table that is turned, its spare room included, changes no later answer,
// and none of another tag that lies over it.
func TestTableIsNewMemory(t *testing.T) {
	b := layered()
	want, _ := expected(b)
	f, _ := sfnt.Open(b)
	for _, w := range want {
		one, _ := f.Table(w.tag)
		two, _ := f.Table(w.tag)
		spoil(one)
		if string(two) != w.bytes || !bytes.Equal(b, layered()) {
			t.Errorf("R2: two answers of %q share memory", w.tag)
		}
		spoil(two)
		holdFont(t, "behind "+w.tag, f, want)
	}
}

// R2: a list of tags that is turned changes no later answer.
func TestTagsIsNewMemory(t *testing.T) {
	want, _ := expected(layered())
	f, _ := sfnt.Open(layered())
	one, two := f.Tags(), f.Tags()
	room := one[:cap(one)]
	for k := range room {
		room[k] = "????"
	}
	_ = append(one, "zzzz")
	if !slices.Equal(two, []string{"abcd", "full", "part", "none"}) {
		t.Errorf("R2: two lists of tags share memory: %q", two)
	}
	slices.Reverse(two)
	holdFont(t, "behind its tags", f, want)
}

// R2: Lay leaves the lists and the tables as they were, spare room included,
// also where it refuses them.
func TestLayChangesNothing(t *testing.T) {
	for _, count := range []int{0, 1, 2, 5, 64} {
		bodies := sample.Bytes(64*8, 3)
		tags, tables := manyTags(66), make([][]byte, 66)
		for k := range 64 {
			tables[k] = bodies[8*k : 8*k+k%7]
		}
		tables[65] = []byte("behind")
		tagsBefore, tablesBefore, bodiesBefore := slices.Clone(tags), slices.Clone(tables), bytes.Clone(bodies)
		sfnt.Lay(tags[:count], tables[:count])
		sfnt.Lay(tags[:count], tables[:count+1])
		sfnt.Lay(tags, tables)
		sfnt.Lay([]string{"abc"}, tables[:1])
		sfnt.Lay([]string{"abcd", "abcd"}, tables[:2])
		same := slices.EqualFunc(tables, tablesBefore, func(a, b []byte) bool {
			return len(a) == len(b) && cap(a) == cap(b) && bytes.Equal(a, b)
		})
		if !slices.Equal(tags, tagsBefore) || !same || !bytes.Equal(bodies, bodiesBefore) {
			t.Errorf("R2: %d tables: something was changed", count)
		}
	}
}

// R2: what is laid may be changed, its spare room included, and neither the
// tables nor another answer notices; and the tables may be changed.
func TestLayIsNewMemory(t *testing.T) {
	for _, count := range []int{0, 1, 2, 5, 64} {
		tags := manyTags(count)
		var tables [][]byte
		for k := range count {
			tables = append(tables, sample.Bytes(k%5+1, k))
		}
		want := laid(tags, tables)
		one, _ := sfnt.Lay(tags, tables)
		two, _ := sfnt.Lay(tags, tables)
		spoil(one)
		if !bytes.Equal(two, want) || !bytes.Equal(laid(tags, tables), want) {
			t.Errorf("R2: %d tables: an answer's change is seen", count)
		}
		for _, body := range tables {
			spoil(body)
		}
		if !bytes.Equal(two, want) {
			t.Errorf("R2: %d tables: they are kept", count)
		}
	}
}

// R4, R7: fonts know nothing of one another, and several goroutines may have
// one each.
func TestApart(t *testing.T) {
	told := make(chan bool)
	for g := range 8 {
		go func() {
			fine := true
			for seed := range 300 {
				b := some(seed*8 + g)
				want, code := expected(b)
				sfnt.Open(layered())
				f, e := sfnt.Open(b)
				sfnt.Open(file("nope", 0))
				fine = fine && e == code && len(f.Tags()) == len(want)
				for _, w := range want {
					body, ok := f.Table(w.tag)
					fine = fine && ok && string(body) == w.bytes
				}
			}
			told <- fine
		}()
	}
	for range 8 {
		if !<-told {
			t.Error("R4: otherwise beside others")
		}
	}
}
