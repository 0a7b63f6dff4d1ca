package flate_test

import (
	"bytes"
	"slices"
	"strings"
	"testing"

	"versal/api"
	"versal/flate"
	"versal/sample"
)

// R2: what is handed in is as it was, its spare room and what lies ahead of it
// included, whatever the answer.
func TestUnchanged(t *testing.T) {
	check := func(what string, b []byte, call func(b []byte)) {
		room := slices.Concat(sample.Bytes(9, 1), b, sample.Bytes(70, 2))
		was := slices.Clone(room)
		call(room[9 : 9+len(b)])
		if !bytes.Equal(room, was) {
			t.Errorf("R2: %s changed what was handed in", what)
		}
		call(room[9 : 9+len(b) : 9+len(b)])
		if !bytes.Equal(room, was) {
			t.Errorf("R2: %s changed what lies behind", what)
		}
	}
	for seed := range 60 {
		b, said := written(seed)
		for _, most := range []int{-1, 0, len(said) - 1, len(said), 1 << 20} {
			inflate := func(b []byte) { flate.Inflate(b, most) }
			check("Inflate", b, inflate)
			check("Inflate", b[:len(b)/2], inflate)
			check("Inflate", append([]byte{7}, b...), inflate)
		}
		check("Stored", b, func(b []byte) { flate.Stored(b) })
	}
	check("Stored", sample.Bytes(70000, 3), func(b []byte) { flate.Stored(b) })
	check("Stored", nil, func(b []byte) { flate.Stored(b) })
}

// spoil turns each byte of an answer and of its spare room.
func spoil(b []byte) {
	b = b[:cap(b)]
	for k := range b {
		b[k] ^= 0xff
	}
}

// R2, R4: an answer is new memory: it may be changed, and neither what was
// handed in nor another answer notices; and what was handed in may be changed.
func TestNewMemory(t *testing.T) {
	for seed := range 60 {
		b, said := written(seed)
		was := slices.Clone(b)
		one, _, _ := flate.Inflate(b, len(said))
		other, used, e := flate.Inflate(b, len(said))
		spoil(one)
		if !bytes.Equal(other, said) || used != len(b) || e != api.OK || !bytes.Equal(b, was) {
			t.Fatalf("R2: an answer of Inflate shares memory")
		}
		spoil(b)
		if !bytes.Equal(other, said) {
			t.Fatalf("R2: Inflate keeps what was handed in")
		}
	}
	for _, n := range []int{0, 1, 100, 65535, 65536, 140000} {
		text := sample.Bytes(n, n)
		was := slices.Clone(text)
		one, other := flate.Stored(text), flate.Stored(text)
		keep := slices.Clone(other)
		spoil(one)
		if !bytes.Equal(other, keep) || !bytes.Equal(text, was) {
			t.Errorf("R2: an answer of Stored shares memory")
		}
		spoil(text)
		if !bytes.Equal(other, keep) {
			t.Errorf("R2: Stored keeps what was handed in")
		}
	}
}

// R4: a call knows nothing of those ahead of it.
func TestApart(t *testing.T) {
	b := begin(1, 1).fixed('a', 'b').copied(9, 2).fixed(256).bytes()
	for seed := range 30 {
		other, said := written(seed)
		flate.Inflate(other, len(said)/2)
		flate.Inflate(other[:len(other)-1], len(said))
		flate.Stored(other)
		hold(t, "behind others", b, 11, "abababababa", len(b), api.OK)
		wrong(t, "nothing is there yet", begin(1, 1).copied(3, 1), api.ErrForm)
	}
}

// 8.1, R1: much out of few bytes: most ends it early, and without a most it
// comes.
func TestMuch(t *testing.T) {
	w := begin(1, 1).fixed(0)
	for range 20000 {
		w.copied(258, 1)
	}
	b := w.fixed(256).bytes()
	hold(t, "much", b, 1<<40, strings.Repeat("\x00", 20000*258+1), len(b), api.OK)
	hold(t, "one too many", b, 20000*258, "", 0, api.ErrBig)
	hold(t, "at once", b, 100, "", 0, api.ErrBig)
	w = new(writer)
	for range 30000 {
		w.fixedBlock(256)
	}
	b = w.head(1, 1).fixed(256).bytes()
	hold(t, "many blocks of none", b, 0, "", len(b), api.OK)
}
