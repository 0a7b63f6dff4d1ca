package flate_test

import (
	"strconv"
	"testing"

	"versal/api"
	"versal/sample"
)

// 8.1: the bits end at each place of a stream of each kind.
func TestCutOff(t *testing.T) {
	for what, build := range map[string]func(w *writer){
		"stored":  func(w *writer) { w.stored(0, []byte("ab")).stored(1, []byte("cde")) },
		"of none": func(w *writer) { w.stored(1, nil) },
		"fixed": func(w *writer) {
			w.head(1, 1).fixed('a', 'b', 255).copied(13, 3).copied(258, 2).copied(257, 5).fixed(256)
		},
		"far":       func(w *writer) { w.stored(0, sample.Bytes(300, 1)).head(1, 1).copied(100, 299).fixed(256) },
		"own":       func(w *writer) { w.block(1, abc(), []int{1}).word("10" + "11" + "0") },
		"copies":    func(w *writer) { w.block(1, copies(), even(7)).word("00" + "111" + "00" + "110" + "00" + "01") },
		"256 alone": func(w *writer) { w.block(1, at(257, map[int]int{256: 1}), []int{0}).word("0") },
		"repeats": func(w *writer) {
			w.own(1, 257, 30, full).zeros('a').lengths(2, 2).zeros(157).lengths(1, 0).repeat(16, 5).repeat(17, 10).repeat(18, 14).word("10110")
		},
		"each kind": func(w *writer) {
			w.stored(0, []byte("x")).fixedBlock('y', 256).block(0, abc(), []int{0}).word("100").stored(1, []byte("z"))
		},
	} {
		everywhere(build, func(w *writer, ahead string) {
			b := w.bytes()
			if _, _, e := want(b, 1<<20); e != api.OK {
				t.Errorf("%s: a stream that is wrong itself: %d", what, e)
			}
			for n := range b {
				hold(t, what+" cut off at "+strconv.Itoa(n), b[:n], 1<<20, "", 0, api.ErrShort)
			}
		})
	}
}

// 8.1: blocks that have no last one are short, of each kind.
func TestNoLast(t *testing.T) {
	wrong(t, "stored", new(writer).stored(0, []byte("a")), api.ErrShort)
	everywhere(func(w *writer) {}, func(w *writer, ahead string) {
		// What is left of the last byte would be a head, if it has three bits:
		// of kind 0, whose length is not there.
		wrong(t, "fixed", w, api.ErrShort)
	})
	wrong(t, "own", new(writer).block(0, abc(), []int{0}).word("0"), api.ErrShort)
}

// 8.1: kind 3, first and behind others, the last one or not, with its bits.
func TestKindThree(t *testing.T) {
	for x := range 256 {
		if x>>1&3 == 3 {
			hold(t, "kind 3", []byte{byte(x)}, 9, "", 0, api.ErrForm)
			hold(t, "kind 3, most 0", []byte{byte(x), 1, 2}, 0, "", 0, api.ErrForm)
		}
	}
	for last := range 2 {
		wrongEverywhere(t, "kind 3 behind", api.ErrForm, func(w *writer) { w.head(last, 3) })
		wrongEverywhere(t, "kind 3 behind its own", api.ErrForm, func(w *writer) { w.block(0, abc(), []int{0}).word("0").head(last, 3) })
		wrong(t, "kind 3 behind stored", new(writer).stored(0, []byte("a")).head(last, 3), api.ErrForm)
		// Two of its three bits are none yet.
		everywhere(func(w *writer) { w.head(last, 3) }, func(w *writer, ahead string) {
			if len(w.text)%8 == 1 || len(w.text)%8 == 2 {
				hold(t, "not all of kind 3", w.bytes()[:len(w.text)/8], 99, "", 0, api.ErrShort)
			}
		})
	}
	hold(t, "kind 3 behind the last one", []byte{1, 1, 0, 0xfe, 0xff, 'a', 7}, 9, "a", 6, api.OK)
}

// 8.1: of two errors of one stream the earlier one is told.
func TestEarlier(t *testing.T) {
	text := []byte("abcd")
	misfit := func(w *writer) *writer { return w.head(1, 0).align().number(1, 16).number(1, 16) }
	for _, x := range []struct {
		what string
		w    *writer
		most int
		code api.Errno
	}{
		{"misfit, then short", misfit(new(writer)), 9, api.ErrForm},
		{"misfit, then big", misfit(new(writer)).number('a', 8), 0, api.ErrForm},
		{"big, then misfit", misfit(new(writer).stored(0, text)), 3, api.ErrBig},
		{"no big, then misfit", misfit(new(writer).stored(0, text)), 4, api.ErrForm},
		{"big, then short", new(writer).stored(0, text), 3, api.ErrBig},
		{"no big, then short", new(writer).stored(0, text), 4, api.ErrShort},
		{"big, then kind 3", new(writer).stored(0, text).head(1, 3), 3, api.ErrBig},
		{"no big, then kind 3", new(writer).stored(0, text).head(1, 3), 4, api.ErrForm},
		{"kind 3, then a block", new(writer).head(0, 3).align().stored(1, text), 0, api.ErrForm},
		{"big, then too far", begin(1, 1).fixed('a', 'b').copied(3, 9), 1, api.ErrBig},
		{"too far, then big", begin(1, 1).fixed('a', 'b').copied(3, 3), 2, api.ErrForm},
		{"too far, then short", begin(1, 1).fixed('a').copied(3, 2), 9, api.ErrForm},
		{"a copy that is big, then 286", begin(1, 1).fixed('a').copied(3, 1).fixed(286), 3, api.ErrBig},
		{"286, then big", begin(1, 1).fixed('a', 286, 'b'), 1, api.ErrForm},
		{"30, then big", begin(1, 1).fixed('a', 257).far(30, 0, 0).fixed('b'), 1, api.ErrForm},
		{"286, then short", begin(1, 1).fixed(286), 9, api.ErrForm},
		{"287 and 31 told, then a code of none", begin(1, 2).counts(287, 31, 4).short(7, 7, 7, 7), 9, api.ErrForm},
		{"no codes, then short", begin(1, 2).counts(257, 1, 4).short(0, 0, 0, 0), 9, api.ErrForm},
		{"big, then no code", new(writer).stored(0, text).head(1, 2).counts(288, 1, 4), 3, api.ErrBig},
		{"a repeat ahead of all, then short", begin(1, 2).counts(257, 1, 4).short(1, 0, 0, 1).word("1"), 9, api.ErrForm},
		{"no 256, then big", new(writer).block(1, at(257, map[int]int{'a': 1, 'b': 1}), []int{0}).word("0"), 0, api.ErrForm},
		{"big, then none of its own", new(writer).block(1, copies(), []int{1}).word("00" + "00" + "101"), 1, api.ErrBig},
		{"none of its own, then big", new(writer).block(1, copies(), []int{1}).word("00" + "101" + "00"), 1, api.ErrForm},
	} {
		hold(t, x.what, x.w.bytes(), x.most, "", 0, x.code)
		if _, _, e := want(x.w.bytes(), x.most); e != x.code {
			t.Errorf("%s: the reference says %d", x.what, e)
		}
	}
}
