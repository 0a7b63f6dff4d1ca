package rows_test

import (
	"bytes"
	"testing"

	"versal/api"
	"versal/rows"
	"versal/sample"
)

// floorHalf answers the greatest whole number that is not above n / 2.
func floorHalf(n int) int {
	half := 0
	for 2*(half+1) <= n {
		half++
	}
	return half
}

// predictor is PNG's PaethPredictor, as its words stand.
func predictor(a, b, c int) int {
	p := a + b - c
	distance := func(n int) int {
		if n < p {
			return p - n
		}
		return n - p
	}
	pa, pb, pc := distance(a), distance(b), distance(c)
	if pa <= pb && pa <= pc {
		return a
	}
	if pb <= pc {
		return b
	}
	return c
}

// told answers what filter kind takes byte x to be, out of PNG's a, b and c.
func told(kind, a, b, c int) int {
	switch kind {
	case 1:
		return a
	case 2:
		return b
	case 3:
		return floorHalf(a + b)
	case 4:
		return predictor(a, b, c)
	}
	return 0
}

// neighbours answers PNG's a, b and c of the byte at x, out of a line as it was.
func neighbours(bpp, x int, line, above []byte) (a, b, c int) {
	if x >= bpp {
		a = int(line[x-bpp])
	}
	if x < len(above) {
		b = int(above[x])
	}
	if x >= bpp && x-bpp < len(above) {
		c = int(above[x-bpp])
	}
	return a, b, c
}

// wantDone works Do out in numbers, with a remainder by 256 at the end.
func wantDone(kind, bpp int, line, above []byte) []byte {
	var out []byte
	for x := range line {
		a, b, c := neighbours(bpp, x, line, above)
		out = append(out, byte((int(line[x])-told(kind, a, b, c)+256)%256))
	}
	return out
}

// wantUndone works Undo out, each byte of bytes that were.
func wantUndone(kind, bpp int, line, above []byte) []byte {
	was := []byte{}
	for x := range line {
		a, b, c := neighbours(bpp, x, was, above)
		was = append(was, byte((int(line[x])+told(kind, a, b, c))%256))
	}
	return was
}

// hold holds both calls against the working out, and each against the other.
func hold(t *testing.T, kind, bpp int, line, above []byte) {
	t.Helper()
	done, e := rows.Do(kind, bpp, line, above)
	if want := wantDone(kind, bpp, line, above); e != api.OK || !bytes.Equal(done, want) {
		t.Fatalf("10.1: Do(%d, %d, %v, %v): %v %d, not %v", kind, bpp, line, above, done, e, want)
	}
	undone, e := rows.Undo(kind, bpp, line, above)
	if want := wantUndone(kind, bpp, line, above); e != api.OK || !bytes.Equal(undone, want) {
		t.Fatalf("10.1: Undo(%d, %d, %v, %v): %v %d, not %v", kind, bpp, line, above, undone, e, want)
	}
	back, e := rows.Undo(kind, bpp, done, above)
	if e != api.OK || !bytes.Equal(back, line) {
		t.Fatalf("10.1: Undo of Do(%d, %d, %v, %v): %v %d", kind, bpp, line, above, back, e)
	}
	back, e = rows.Do(kind, bpp, undone, above)
	if e != api.OK || !bytes.Equal(back, line) {
		t.Fatalf("10.1: Do of Undo(%d, %d, %v, %v): %v %d", kind, bpp, line, above, back, e)
	}
}

// pair holds a line as it was and as it is filtered, both written out.
func pair(t *testing.T, what string, kind, bpp int, was, filtered, above []byte) {
	t.Helper()
	if got, e := rows.Do(kind, bpp, was, above); e != api.OK || !bytes.Equal(got, filtered) {
		t.Errorf("10.1: %s: Do(%d, %d, %v, %v): %v %d, not %v", what, kind, bpp, was, above, got, e, filtered)
	}
	if got, e := rows.Undo(kind, bpp, filtered, above); e != api.OK || !bytes.Equal(got, was) {
		t.Errorf("10.1: %s: Undo(%d, %d, %v, %v): %v %d, not %v", what, kind, bpp, filtered, above, got, e, was)
	}
}

// steep answers n bytes out of the few at which sums pass 0, 127 and 255.
func steep(n, seed int) []byte {
	ends := []byte{0, 1, 2, 126, 127, 128, 129, 253, 254, 255}
	b := sample.Bytes(n, seed)
	for k := range b {
		b[k] = ends[int(b[k])%len(ends)]
	}
	return b
}
