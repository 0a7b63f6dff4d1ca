package codes_test

import (
	"bytes"
	"math"
	"slices"
	"testing"

	"versal/codes"
	"versal/sample"
)

// 7.1: a byte's lowest bit comes first, and the first byte ahead of the next.
func TestOneByOne(t *testing.T) {
	b := []byte{0b10110101, 0b00000011, 0xff, 0x01, 0x80}
	r := codes.NewBits(b)
	for k, want := range []int{
		1, 0, 1, 0, 1, 1, 0, 1,
		1, 1, 0, 0, 0, 0, 0, 0,
		1, 1, 1, 1, 1, 1, 1, 1,
		1, 0, 0, 0, 0, 0, 0, 0,
		0, 0, 0, 0, 0, 0, 0, 1,
	} {
		holdTake(t, r, 1, want, true, k/8+1)
	}
	holdTake(t, r, 1, 0, false, 5)
}

// 7.1: of several bits the first is the number's lowest, over bytes' ends too.
func TestSeveral(t *testing.T) {
	b := []byte{0b10110101, 0b11001010, 0x34, 0x12, 0xcd, 0xab, 0xef}
	r := codes.NewBits(b)
	holdTake(t, r, 3, 0b101, true, 1)
	holdTake(t, r, 7, 0b10_10110, true, 2)
	holdTake(t, r, 6, 0b110010, true, 2)
	holdTake(t, r, 16, 0x1234, true, 4)
	holdTake(t, r, 24, 0xefabcd, true, 7)
	holdTake(t, r, 1, 0, false, 7)
}

// 7.1: each n from 0 to 24, at each place within a byte, of bytes of all kinds.
func TestEachNumber(t *testing.T) {
	for _, b := range [][]byte{sample.Bytes(6, 1), sample.Bytes(6, 2), sample.Bytes(6, 3), bytes.Repeat([]byte{255}, 6), make([]byte, 6), {1, 2, 4, 8, 16, 32}} {
		all := spelt(b)
		for at := range 17 {
			for n := range 25 {
				r := codes.NewBits(b)
				holdTake(t, r, at, lowFirst(all[:at]), true, (at+7)/8)
				holdTake(t, r, n, lowFirst(all[at:at+n]), true, (at+n+7)/8)
				holdTake(t, r, 7, lowFirst(all[at+n:at+n+7]), true, (at+n+14)/8)
			}
		}
	}
}

// 7.1: each byte alone, whole and in two parts.
func TestEachByte(t *testing.T) {
	for x := range 256 {
		holdTake(t, codes.NewBits([]byte{byte(x)}), 8, x, true, 1)
		for n := range 9 {
			r := codes.NewBits([]byte{byte(x)})
			holdTake(t, r, n, x&(1<<n-1), true, min(n, 1))
			holdTake(t, r, 8-n, x>>n, true, 1)
			holdTake(t, r, 1, 0, false, 1)
		}
	}
}

// 7.1: n is brought within 0 to 24.
func TestBroughtWithin(t *testing.T) {
	b := []byte{0x11, 0x22, 0x33, 0x44, 0x55, 0x66, 0x77, 0x88, 0x99}
	for _, n := range []int{24, 25, 26, 31, 32, 33, 48, 63, 64, 65, 99, 1 << 16, math.MaxInt32, math.MaxInt64 - 1, math.MaxInt64} {
		r := codes.NewBits(b)
		holdTake(t, r, n, 0x332211, true, 3)
		holdTake(t, r, n, 0x665544, true, 6)
		holdTake(t, r, n, 0x998877, true, 9)
		holdTake(t, r, n, 0, false, 9)
	}
	for _, n := range []int{0, -1, -2, -8, -24, -64, math.MinInt32, math.MinInt64, math.MinInt64 + 1} {
		r := codes.NewBits(b)
		holdTake(t, r, n, 0, true, 0)
		holdTake(t, r, 3, 0b001, true, 1)
		holdTake(t, r, n, 0, true, 1)
		holdTake(t, r, 5, 0b00010, true, 1)
		holdTake(t, r, n, 0, true, 1)
		holdTake(t, r, 8, 0x22, true, 2)
		for _, none := range [][]byte{nil, {}} {
			holdTake(t, codes.NewBits(none), n, 0, true, 0)
		}
	}
}

// 7.1: just as many bits as are left come; of one more, none is taken.
func TestJustEnough(t *testing.T) {
	for size := range 4 {
		b := sample.Bytes(size, 5+size)
		all := spelt(b)
		for at := range len(all) + 1 {
			left := len(all) - at
			r := codes.NewBits(b)
			holdTake(t, r, at, lowFirst(all[:at]), true, (at+7)/8)
			for n := left + 1; n <= 25; n++ {
				if left < 24 {
					holdTake(t, r, n, 0, false, (at+7)/8)
				}
			}
			holdTake(t, r, left, lowFirst(all[at:]), true, size)
			holdTake(t, r, 0, 0, true, size)
			holdTake(t, r, 1, 0, false, size)
			holdTake(t, r, math.MaxInt, 0, false, size)
		}
	}
}

// 7.1: more than 24 is 24 also where just 24 are left, and where 23 are.
func TestBroughtWithinAtTheEnd(t *testing.T) {
	r := codes.NewBits([]byte{1, 2, 3})
	holdTake(t, r, 25, 0x030201, true, 3)
	r = codes.NewBits([]byte{1, 2, 3})
	holdTake(t, r, 1, 1, true, 1)
	holdTake(t, r, 25, 0, false, 1)
	holdTake(t, r, 23, 0x030201>>1, true, 3)
}

// 7.1: Align ahead of all, amid a byte, at its end, at the end of all.
func TestAlign(t *testing.T) {
	b := []byte{0x1f, 0x2e, 0x3d}
	for taken := range 25 {
		r := codes.NewBits(b)
		r.Take(taken)
		used := (taken + 7) / 8
		holdUsed(t, r, used)
		for range 3 {
			// A byte that is skipped to is not begun: a second Align skips nothing.
			r.Align()
			holdUsed(t, r, used)
		}
		for k := used; k < 3; k++ {
			holdTake(t, r, 8, int(b[k]), true, k+1)
		}
		holdTake(t, r, 1, 0, false, 3)
		r.Align()
		holdUsed(t, r, 3)
		holdTake(t, r, 0, 0, true, 3)
		holdTake(t, r, 1, 0, false, 3)
	}
}

// 7.1: what Align has skipped doesn't count as left; a Take that failed and
// one of no bits begin no byte, so that Align skips nothing behind them.
func TestAlignLeavesOrNot(t *testing.T) {
	r := codes.NewBits([]byte{0xff, 0x5a})
	r.Take(17)
	r.Align()
	r.Take(0)
	r.Align()
	holdUsed(t, r, 0)
	holdTake(t, r, 1, 1, true, 1)
	r.Align()
	holdTake(t, r, 9, 0, false, 1)
	r.Align()
	r.Take(-1)
	r.Align()
	holdTake(t, r, 8, 0x5a, true, 2)
}

// 7.1: Used asks alone: it takes nothing, however often.
func TestUsedTakesNothing(t *testing.T) {
	b := sample.Bytes(4, 9)
	all := spelt(b)
	r := codes.NewBits(b)
	holdUsed(t, r, 0)
	for k := range all {
		holdTake(t, r, 1, int(all[k]-'0'), true, k/8+1)
		holdUsed(t, r, k/8+1)
		holdUsed(t, r, k/8+1)
	}
}

// 7.1, R2: no bytes: nil, empty, and empty with spare room.
func TestNoBytes(t *testing.T) {
	full := []byte{1, 2, 3}
	for _, b := range [][]byte{nil, {}, make([]byte, 0, 9), full[:0], full[3:], full[1:1:1]} {
		r := codes.NewBits(b)
		holdUsed(t, r, 0)
		holdTake(t, r, 0, 0, true, 0)
		for _, n := range []int{1, 8, 24, 25, math.MaxInt} {
			holdTake(t, r, n, 0, false, 0)
		}
		r.Align()
		holdTake(t, r, -7, 0, true, 0)
		holdTake(t, r, 1, 0, false, 0)
	}
}

// 7.1: Takes and Aligns in any order, held against a text of the bits.
func TestInAnyOrder(t *testing.T) {
	for seed := range 300 {
		pick := sample.Source(seed)
		b := sample.Bytes(pick(90), seed)
		all, at := spelt(b), 0
		r := codes.NewBits(b)
		for range 120 {
			if pick(6) == 0 {
				r.Align()
				at = (at + 7) / 8 * 8
				holdUsed(t, r, at/8)
				continue
			}
			n := pick(32) - 3
			wide := min(max(n, 0), 24)
			if at+wide > len(all) {
				holdTake(t, r, n, 0, false, (at+7)/8)
				continue
			}
			want := lowFirst(all[at : at+wide])
			at += wide
			holdTake(t, r, n, want, true, (at+7)/8)
		}
	}
}

// 7.1: many bytes.
func TestManyBytes(t *testing.T) {
	b := sample.Bytes(3<<18, 21)
	r := codes.NewBits(b)
	for k := 0; k < len(b); k += 3 {
		want := int(b[k]) | int(b[k+1])<<8 | int(b[k+2])<<16
		if got, ok := r.Take(24); got != want || !ok || r.Used() != k+3 {
			t.Fatalf("7.1: from %d on: %x, %t, used %d", k, got, ok, r.Used())
		}
	}
	holdTake(t, r, 1, 0, false, len(b))
}

// R2: what is handed in is as it was behind each call, its spare room and what
// lies ahead of it included.
func TestBytesUnchanged(t *testing.T) {
	room := sample.Bytes(40, 13)
	was := slices.Clone(room)
	hold := func(call string) {
		if !bytes.Equal(room, was) {
			t.Fatalf("R2: %s changed what was handed in", call)
		}
	}
	c := made(t, []int{2, 1, 3, 3})
	r := codes.NewBits(room[8:20:32])
	hold("NewBits")
	for n := range 30 {
		r.Take(n % 13)
		hold("Take")
		r.Used()
		hold("Used")
		c.Read(r)
		hold("Read")
		if n%4 == 0 {
			r.Align()
			hold("Align")
		}
	}
}

// R2: what is handed in may be changed afterwards, and its spare room filled.
func TestBytesNotKept(t *testing.T) {
	room := []byte{0x5a, 0x3c, 0xff, 0x77}
	r := codes.NewBits(room[:2])
	room[0], room[1] = 0, 0
	holdTake(t, r, 12, 0xc5a, true, 2)
	room[1] = 0xff
	_ = append(room[:2], 0xee)
	holdTake(t, r, 4, 0x3, true, 2)
	holdTake(t, r, 1, 0, false, 2)

	room = []byte{0b01011010}
	c := made(t, []int{1, 1})
	r = codes.NewBits(room)
	for _, want := range []int{0, 1, 0, 1, 1, 0, 1, 0} {
		room[0] ^= 0xff
		holdRead(t, c, r, want, true)
	}
}

// R7: two of the same bytes know nothing of one another.
func TestApart(t *testing.T) {
	b := sample.Bytes(9, 17)
	all := spelt(b)
	one, other := codes.NewBits(b), codes.NewBits(b)
	for k := range 24 {
		holdTake(t, one, 3, lowFirst(all[3*k:3*k+3]), true, (3*k+10)/8)
		holdTake(t, other, 1, int(all[k]-'0'), true, k/8+1)
	}
	one.Align()
	holdTake(t, one, 1, 0, false, 9)
	holdTake(t, other, 24, lowFirst(all[24:48]), true, 6)
}

// R1: of none there is no answer, and no panic.
func TestNilBits(t *testing.T) {
	var r *codes.Bits
	for _, n := range []int{math.MinInt, -1, 0, 1, 24, math.MaxInt} {
		holdTake(t, r, n, 0, false, 0)
	}
	r.Align()
	holdUsed(t, r, 0)
	for _, lengths := range [][]int{nil, {1}, {1, 1}, {2, 1, 3, 3}} {
		holdRead(t, made(t, lengths), r, 0, false)
	}
}
