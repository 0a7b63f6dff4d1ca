package zlib_test

import (
	"slices"
	"strconv"
	"testing"

	"versal/api"
	"versal/flate"
	"versal/sample"
	"versal/zlib"
)

// wrongBodies answers what flate.Inflate refuses whatever comes behind it, and
// with which error, if there are at most two bytes.
func wrongBodies() []struct {
	what string
	body []byte
	code api.Errno
} {
	return []struct {
		what string
		body []byte
		code api.Errno
	}{
		{"kind 3", []byte{0x07}, api.ErrForm},
		{"kind 3, not the last", []byte{0x06}, api.ErrForm},
		{"a complement that does not fit", []byte{0x01, 1, 0, 0xff, 0xff}, api.ErrForm},
		{"a distance beyond", []byte{0x03, 0x02, 0x00}, api.ErrForm},
		{"too many codes of lengths", []byte{0xfd, 0x00, 0x00}, api.ErrForm},
		{"kind 3 behind another block", []byte{0x00, 0, 0, 0xff, 0xff, 0x07}, api.ErrForm},
		{"three bytes as they are", []byte{0x01, 3, 0, 0xfc, 0xff, 'a', 'b', 'c'}, api.ErrBig},
		{"three bytes by codes", []byte{0x4b, 0x4c, 0x4a, 0x06, 0x00}, api.ErrBig},
	}
}

// 9.1: each of flate.Inflate's errors is handed on, whatever is left behind it.
func TestInflateErrors(t *testing.T) {
	for _, c := range wrongBodies() {
		if _, _, e := flate.Inflate(c.body, 2); e != c.code {
			t.Fatalf("%s: Inflate says %d", c.what, e)
		}
		hold(t, c.what+", nothing behind", slices.Concat([]byte{0x78, 1}, c.body), 2, "", c.code)
		for n := range 8 {
			b := slices.Concat([]byte{0x78, 1}, c.body, make([]byte, n))
			hold(t, c.what+", "+strconv.Itoa(n)+" behind", b, 2, "", c.code)
		}
		hold(t, c.what+", an Adler", framed(c.body, []byte("abc")), 2, "", c.code)
		hold(t, c.what+", none's Adler", framed(c.body, nil), 2, "", c.code)
	}
	for _, body := range [][]byte{nil, {0x03}, {0x01}, {0x01, 0, 0, 0xff}, {0x01, 2, 0, 0xfd, 0xff, 'a'}, {0x00, 0, 0, 0xff, 0xff}} {
		hold(t, "a body that ends too early", append([]byte{0x78, 1}, body...), 2, "", api.ErrShort)
	}
}

// 9.1: a frame cut off at each place is short.
func TestCutOff(t *testing.T) {
	for _, c := range bodies() {
		b := framed(c[0], c[1])
		for n := range b {
			hold(t, "cut off at "+strconv.Itoa(n), b[:n], len(c[1]), "", api.ErrShort)
			wrong(t, "cut off at "+strconv.Itoa(n), b[:n], api.ErrShort)
		}
	}
	b := zlib.Lay(sample.Bytes(66000, 3))
	for _, n := range []int{0, 1, 2, 3, 6, 7, 65541, 65542, 65546, 65547, len(b) - 5, len(b) - 4, len(b) - 1} {
		wrong(t, "two blocks cut off at "+strconv.Itoa(n), b[:n], api.ErrShort)
	}
}

// 9.1: of two errors the one that the chapter names first.
func TestTwoErrors(t *testing.T) {
	abc := []byte{0x4b, 0x4c, 0x4a, 0x06, 0x00}
	good, bad := adler([]byte("abc")), []byte{1, 2, 3, 4}
	for _, c := range []struct {
		what  string
		parts [][]byte
		most  int
		code  api.Errno
	}{
		{"one byte, another method", [][]byte{{0x79}}, 9, api.ErrShort},
		{"another method, nothing behind", [][]byte{{0x79, 0x18}}, 9, api.ErrForm},
		{"no check, a body that is short", [][]byte{{0x78, 0x02}, abc[:2]}, 9, api.ErrForm},
		{"a dictionary, too many bytes", [][]byte{{0x78, 0x20}, abc, good}, 2, api.ErrForm},
		{"window 8, a wrong Adler", [][]byte{{0x88, 0x1c}, abc, bad}, 9, api.ErrForm},
		{"no check, no Adler", [][]byte{{0x78, 0x02}, abc}, 9, api.ErrForm},
		{"too many bytes, no Adler", [][]byte{{0x78, 0x01}, abc}, 2, api.ErrBig},
		{"too many bytes, three left", [][]byte{{0x78, 0x01}, abc, good[:3]}, 2, api.ErrBig},
		{"too many bytes, one more left", [][]byte{{0x78, 0x01}, abc, good, {0}}, 2, api.ErrBig},
		{"too many bytes, a wrong Adler", [][]byte{{0x78, 0x01}, abc, bad}, 2, api.ErrBig},
		{"too many bytes, then short", [][]byte{{0x78, 0x01}, abc[:4]}, 1, api.ErrBig},
		{"short, with room", [][]byte{{0x78, 0x01}, abc[:4]}, 9, api.ErrShort},
		{"kind 3, no Adler", [][]byte{{0x78, 0x01}, {7}}, 9, api.ErrForm},
		{"kind 3, a wrong Adler", [][]byte{{0x78, 0x01}, {7}, bad}, 9, api.ErrForm},
		{"three left that are wrong", [][]byte{{0x78, 0x01}, abc, bad[:3]}, 9, api.ErrShort},
		{"five left, wrong ones", [][]byte{{0x78, 0x01}, abc, bad, {5}}, 9, api.ErrForm},
		{"a wrong Adler alone", [][]byte{{0x78, 0x01}, abc, bad}, 9, api.ErrMark},
		{"none of it", [][]byte{{0x78, 0x01}, abc, good}, 3, api.OK},
	} {
		want := ""
		if c.code == api.OK {
			want = "abc"
		}
		hold(t, c.what, slices.Concat(c.parts...), c.most, want, c.code)
	}
}

// 9.1, R1: frames of all kinds with some bits turned, bytes gone or added, and
// any most.
func TestTurned(t *testing.T) {
	var frames [][]byte
	for _, c := range bodies() {
		frames = append(frames, framed(c[0], c[1]))
	}
	for level := -2; level <= 9; level++ {
		for _, text := range samples() {
			frames = append(frames, deflated(t, level, text[:min(len(text), 400)]))
		}
	}
	seen := make(map[api.Errno]int)
	for seed := range 12000 {
		pick := sample.Source(seed)
		b := slices.Clone(frames[pick(len(frames))])
		for range pick(3) {
			b[pick(len(b))] ^= 1 << pick(8)
		}
		switch pick(5) {
		case 0:
			b = b[:pick(len(b)+1)]
		case 1:
			b = append(b, sample.Bytes(1+pick(3), seed)...)
		case 2:
			b[len(b)-1-pick(4)] ^= byte(1 + pick(255))
		}
		most := 1 << 16
		if pick(3) == 0 {
			most = pick(500) - 2
		}
		seen[holdExpected(t, "turned", b, most)]++
	}
	for _, e := range []api.Errno{api.OK, api.ErrForm, api.ErrShort, api.ErrBig, api.ErrMark} {
		if seen[e] < 100 {
			t.Errorf("error %d: %d times", e, seen[e])
		}
	}
}

// 9.1, R1: any bytes at all, alone and behind a head.
func TestAnyBytes(t *testing.T) {
	for seed := range 4000 {
		b := sample.Bytes(sample.Source(seed)(60), seed)
		holdExpected(t, "any bytes", b, 1<<12)
		holdExpected(t, "any bytes behind a head", append([]byte{0x78, 0x9c}, b...), 1<<12)
	}
	for x := range 1 << 16 {
		holdExpected(t, "two bytes behind a head", []byte{0x78, 0x01, byte(x), byte(x >> 8), 0, 0, 0, 1}, 9)
	}
}
