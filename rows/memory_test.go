package rows_test

import (
	"bytes"
	"slices"
	"testing"

	"versal/api"
	"versal/rows"
	"versal/sample"
)

// calls answers both calls, by their names.
func calls() map[string]func(kind, bpp int, line, above []byte) ([]byte, api.Errno) {
	return map[string]func(kind, bpp int, line, above []byte) ([]byte, api.Errno){"Do": rows.Do, "Undo": rows.Undo}
}

// spoil turns each byte of an answer and of its spare room.
func spoil(b []byte) {
	b = b[:cap(b)]
	for k := range b {
		b[k] ^= 0xff
	}
}

// R2: what is handed in is as it was, its spare room and what lies ahead of it
// included, also beside an error.
func TestUnchanged(t *testing.T) {
	for name, call := range calls() {
		for kind := -1; kind <= 5; kind++ {
			for bpp := 0; bpp <= 9; bpp++ {
				for _, n := range []int{0, 1, 7, 30} {
					for _, m := range []int{0, 1, 6, 30, 40} {
						line, above := sample.Bytes(90, n+1), sample.Bytes(90, m+2)
						wasLine, wasAbove := slices.Clone(line), slices.Clone(above)
						call(kind, bpp, line[9:9+n], above[9:9+m])
						call(kind, bpp, line[9:9+n:9+n], above[9:9+m:9+m])
						call(kind, bpp, line[9:9+n], line[20:20+m])
						if !bytes.Equal(line, wasLine) || !bytes.Equal(above, wasAbove) {
							t.Errorf("R2: %s(%d, %d) changed what was handed in", name, kind, bpp)
						}
					}
				}
			}
		}
	}
}

// R2: an answer is new memory: it may be changed, and neither what was handed in
// nor another answer notices; and what was handed in may be changed.
func TestNewMemory(t *testing.T) {
	for name, call := range calls() {
		filters(func(kind, bpp int) {
			for _, n := range []int{0, 1, 7, 8, 30} {
				line, above := sample.Bytes(n, n+1), sample.Bytes(n, n+2)
				wasLine, wasAbove := slices.Clone(line), slices.Clone(above)
				one, _ := call(kind, bpp, line, above)
				other, e := call(kind, bpp, line, above)
				keep := slices.Clone(other)
				spoil(one)
				if e != api.OK || !bytes.Equal(other, keep) || !bytes.Equal(line, wasLine) || !bytes.Equal(above, wasAbove) {
					t.Errorf("R2: an answer of %s(%d, %d) shares memory", name, kind, bpp)
				}
				spoil(line)
				spoil(above)
				if !bytes.Equal(other, keep) {
					t.Errorf("R2: %s(%d, %d) keeps what was handed in", name, kind, bpp)
				}
			}
		})
	}
}

// R2: no answer of Passes shares memory with another one, nor with what the next
// one is made of.
func TestNewPasses(t *testing.T) {
	for w := range 10 {
		for h := range 10 {
			one, other := rows.Passes(w, h), rows.Passes(w, h)
			keep := slices.Clone(other)
			one = one[:cap(one)]
			for k := range one {
				one[k] = rows.Pass{X: 9, Y: 9, DX: 9, DY: 9, W: 9, H: 9}
			}
			if !slices.Equal(other, keep) || !slices.Equal(rows.Passes(w, h), keep) {
				t.Errorf("R2: an answer of Passes(%d, %d) shares memory", w, h)
			}
		}
	}
}

// R2: nil and an empty line are the same, each of both by itself.
func TestNilAndEmpty(t *testing.T) {
	line := sample.Bytes(20, 1)
	for name, call := range calls() {
		filters(func(kind, bpp int) {
			one, e := call(kind, bpp, line, nil)
			other, f := call(kind, bpp, line, []byte{})
			if e != api.OK || f != api.OK || !bytes.Equal(one, other) {
				t.Errorf("R2: %s(%d, %d): no above, and an empty one", name, kind, bpp)
			}
		})
	}
}

// R4: a call knows nothing of those ahead of it, and several goroutines may ask
// at a time.
func TestApart(t *testing.T) {
	line, above := sample.Bytes(50, 1), sample.Bytes(50, 2)
	filters(func(kind, bpp int) {
		hold(t, kind, bpp, line, above)
		rows.Undo(kind, 9, line, above)
		rows.Do(5, bpp, above, line)
		rows.Passes(bpp, kind)
		hold(t, kind, bpp, line, above)
	})
	want := rows.Passes(13, 7)
	filtered, _ := rows.Do(4, 3, line, above)
	told := make(chan bool)
	for range 8 {
		go func() {
			got, e := rows.Undo(4, 3, filtered, above)
			told <- e == api.OK && bytes.Equal(got, line) && slices.Equal(rows.Passes(13, 7), want)
		}()
	}
	for range 8 {
		if !<-told {
			t.Error("R4: otherwise beside others")
		}
	}
}
