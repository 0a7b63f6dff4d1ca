package rows_test

import (
	"slices"
	"testing"

	"versal/sample"
)

// filters calls f for each kind with each bpp.
func filters(f func(kind, bpp int)) {
	for kind := range 5 {
		for bpp := 1; bpp <= 8; bpp++ {
			f(kind, bpp)
		}
	}
}

// 10.1: the chapter's example, there and back.
func TestExample(t *testing.T) {
	pair(t, "the example", 1, 1, []byte{1, 2, 3}, []byte{1, 1, 1}, nil)
}

// 10.1: each kind, written out.
func TestKinds(t *testing.T) {
	was, above := []byte{10, 20, 30, 200, 100, 50}, []byte{1, 2, 3, 250, 150, 90}
	for _, c := range []struct {
		kind, bpp int
		filtered  []byte
	}{
		{0, 1, []byte{10, 20, 30, 200, 100, 50}},
		{0, 3, []byte{10, 20, 30, 200, 100, 50}},
		{1, 1, []byte{10, 10, 10, 170, 156, 206}},
		{1, 3, []byte{10, 20, 30, 190, 80, 20}},
		{2, 1, []byte{9, 18, 27, 206, 206, 216}},
		{2, 3, []byte{9, 18, 27, 206, 206, 216}},
		{3, 1, []byte{10, 14, 19, 60, 181, 211}},
		{3, 3, []byte{10, 19, 29, 70, 15, 246}},
		{4, 1, []byte{9, 10, 10, 206, 206, 216}},
		{4, 3, []byte{9, 18, 27, 206, 206, 216}},
	} {
		pair(t, "written out", c.kind, c.bpp, was, c.filtered, above)
	}
}

// 10.1: lines of many lengths, no bytes and fewer than bpp among them, with a
// line above that is empty, shorter, one byte off, as long, and longer.
func TestLengths(t *testing.T) {
	filters(func(kind, bpp int) {
		for n := range 41 {
			for _, m := range []int{0, 1, n / 2, n - bpp, n - 1, n, n + 1, n + bpp, 3*n + 9} {
				hold(t, kind, bpp, sample.Bytes(n, n+m), sample.Bytes(max(m, 0), m+99))
				hold(t, kind, bpp, steep(n, n+m), steep(max(m, 0), m+77))
			}
		}
	})
}

// 10.1: the longest lines that an image has, and longer ones.
func TestLongLines(t *testing.T) {
	filters(func(kind, bpp int) {
		for _, n := range []int{256, 256 * bpp, 256*bpp + 1, 20000} {
			hold(t, kind, bpp, sample.Bytes(n, n), sample.Bytes(n, n+1))
		}
	})
}

// 10.1: no bytes are none, nil or empty, whatever stands above.
func TestNoBytes(t *testing.T) {
	filters(func(kind, bpp int) {
		for _, line := range [][]byte{nil, {}} {
			for _, above := range [][]byte{nil, {}, {1}, sample.Bytes(40, 3)} {
				pair(t, "no bytes", kind, bpp, line, nil, above)
			}
		}
	})
}

// 10.1: the first bpp bytes have none to their left, nor at the corner: sub
// leaves them, average halves what is above, Paeth takes what is above.
func TestFirstPixel(t *testing.T) {
	for bpp := 1; bpp <= 8; bpp++ {
		was, above := sample.Bytes(bpp, bpp), sample.Bytes(bpp, bpp+50)
		half, rest := make([]byte, bpp), make([]byte, bpp)
		for k := range bpp {
			half[k], rest[k] = was[k]-above[k]/2, was[k]-above[k]
		}
		for n := 1; n <= bpp; n++ {
			pair(t, "none to the left", 0, bpp, was[:n], was[:n], above)
			pair(t, "none to the left", 1, bpp, was[:n], was[:n], above)
			pair(t, "none to the left", 2, bpp, was[:n], rest[:n], above)
			pair(t, "none to the left", 3, bpp, was[:n], half[:n], above)
			pair(t, "none to the left", 4, bpp, was[:n], rest[:n], above)
		}
	}
}

// 10.1: the byte to the left is bpp bytes off, not one more or less.
func TestLeft(t *testing.T) {
	for bpp := 1; bpp <= 8; bpp++ {
		was := make([]byte, 20)
		was[3] = 100
		sub, half := slices.Clone(was), slices.Clone(was)
		sub[3+bpp], half[3+bpp] = 156, 206
		pair(t, "one byte", 1, bpp, was, sub, nil)
		pair(t, "one byte", 3, bpp, was, half, nil)
		pair(t, "one byte", 4, bpp, was, sub, nil)
	}
}

// 10.1: bytes that above lacks are 0: at the place itself, and at the corner,
// which may be there where the place is not.
func TestAboveIsShorter(t *testing.T) {
	was := []byte{50, 60, 70, 80}
	pair(t, "one above", 2, 1, was, []byte{43, 60, 70, 80}, []byte{7})
	pair(t, "one above", 3, 1, was, []byte{47, 35, 40, 45}, []byte{7})
	// At the second place left is 50, over lacks, the corner is 90: the sum of
	// -40 is nearest to over.
	pair(t, "a corner without an over", 4, 1, was, []byte{216, 60, 10, 10}, []byte{90})
	pair(t, "no above", 4, 1, was, []byte{50, 10, 10, 10}, nil)
	filters(func(kind, bpp int) {
		for m := range 20 {
			above := sample.Bytes(m, m)
			full := append(slices.Clone(above), make([]byte, 20-m)...)
			line := sample.Bytes(20, m+9)
			pair(t, "above with zeros", kind, bpp, line, wantDone(kind, bpp, line, full), above)
		}
	})
}

// 10.1: bytes of above beyond the line are not looked at, nor is its spare room.
func TestAboveIsLonger(t *testing.T) {
	filters(func(kind, bpp int) {
		for n := range 20 {
			line, above := sample.Bytes(n, n), sample.Bytes(60, n+5)
			want := wantDone(kind, bpp, line, above[:n])
			pair(t, "above is longer", kind, bpp, line, want, above)
			other := append(slices.Clone(above[:n]), sample.Bytes(40, n+6)...)
			pair(t, "above goes on otherwise", kind, bpp, line, want, other)
			short := append(slices.Clone(above[:n/2]), make([]byte, n)...)
			pair(t, "spare room", kind, bpp, line, wantDone(kind, bpp, line, short), above[:n/2])
		}
	})
}

// 10.1: a line that is its own line above, and one that overlaps it.
func TestOverlap(t *testing.T) {
	filters(func(kind, bpp int) {
		room := sample.Bytes(60, 4)
		hold(t, kind, bpp, room, room)
		hold(t, kind, bpp, room[:40], room[20:])
		hold(t, kind, bpp, room[20:], room[:40])
	})
}

// 10.1: the average's sum has nine bits and is floored: all pairs.
func TestAverage(t *testing.T) {
	for a := range 256 {
		for b := range 256 {
			hold(t, 3, 1, []byte{byte(a), 7}, []byte{0, byte(b)})
		}
	}
	pair(t, "255 and 255", 3, 1, []byte{255, 255}, []byte{255, 0}, []byte{0, 255})
	pair(t, "200 and 100", 3, 1, []byte{200, 150}, []byte{200, 0}, []byte{0, 100})
	pair(t, "255 and 1", 3, 1, []byte{255, 128}, []byte{255, 0}, []byte{0, 1})
	pair(t, "floored", 3, 1, []byte{1, 0}, []byte{1, 0}, nil)
	pair(t, "floored", 3, 1, []byte{2, 2}, []byte{2, 0}, []byte{0, 3})
	pair(t, "floored above 255", 3, 1, []byte{254, 254}, []byte{254, 0}, []byte{0, 255})
}

// paethOf holds what Paeth takes a byte to be where a is to its left, b above,
// c at the corner.
func paethOf(t *testing.T, what string, a, b, c, want byte) {
	t.Helper()
	pair(t, what, 4, 1, []byte{a, want}, []byte{a - c, 0}, []byte{c, b})
}

// 10.1: Paeth where two or three numbers are as near, and where its sum is no
// byte.
func TestPaeth(t *testing.T) {
	paethOf(t, "left is nearest", 50, 90, 91, 50)
	paethOf(t, "above is nearest", 90, 50, 91, 50)
	paethOf(t, "the corner is nearest", 40, 60, 50, 50)
	paethOf(t, "all three are as near", 77, 77, 77, 77)
	paethOf(t, "left and above are as near", 90, 90, 100, 90)
	// Here the sum is 20, or 30: two are 10 off, the third one 20.
	paethOf(t, "left and the corner are as near", 10, 40, 30, 10)
	paethOf(t, "left and the corner are as near", 40, 10, 20, 40)
	paethOf(t, "above and the corner are as near", 40, 10, 30, 10)
	paethOf(t, "above and the corner are as near", 10, 40, 20, 40)
	paethOf(t, "a sum below 0", 3, 10, 200, 3)
	paethOf(t, "a sum below 0", 10, 3, 200, 3)
	paethOf(t, "the least sum", 0, 0, 255, 0)
	paethOf(t, "a sum above 255", 200, 250, 10, 250)
	paethOf(t, "a sum above 255", 250, 200, 10, 250)
	paethOf(t, "the greatest sum", 255, 255, 0, 255)
}

// 10.1: Paeth of all left, above and corner of some steps, and of all near one
// another.
func TestPaethOfAll(t *testing.T) {
	all := func(numbers []byte) {
		for _, a := range numbers {
			for _, b := range numbers {
				for _, c := range numbers {
					paethOf(t, "of all", a, b, c, byte(predictor(int(a), int(b), int(c))))
				}
			}
		}
	}
	var steps, low, high []byte
	for k := range 256 {
		if k%5 == 0 {
			steps = append(steps, byte(k))
		}
		if k < 20 {
			low, high = append(low, byte(k)), append(high, byte(255-k))
		}
	}
	all(steps)
	all(append(low, high...))
}

// 10.1: bytes pass 255 and 0.
func TestWrap(t *testing.T) {
	pair(t, "sub", 1, 1, []byte{255, 0, 255}, []byte{255, 1, 255}, nil)
	pair(t, "sub", 1, 1, []byte{255, 254, 253}, []byte{255, 255, 255}, nil)
	pair(t, "up", 2, 1, []byte{0, 255, 4}, []byte{1, 0, 10}, []byte{255, 255, 250})
	pair(t, "average", 3, 1, []byte{0, 1}, []byte{129, 130}, []byte{255, 255})
	pair(t, "Paeth", 4, 1, []byte{0, 3, 2}, []byte{1, 3, 255}, []byte{255, 255, 255})
	for kind := range 5 {
		for x := range 256 {
			for y := range 256 {
				hold(t, kind, 1, []byte{byte(x), byte(y)}, []byte{byte(y), byte(x)})
			}
		}
	}
}
