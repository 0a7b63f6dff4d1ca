package sums_test

import (
	"bytes"
	"hash/adler32"
	"hash/crc32"
	"strings"
	"testing"

	"versal/sample"
	"versal/sums"
)

// 6.1: words whose sums are well known.
func TestKnownWords(t *testing.T) {
	for _, x := range []struct {
		word       string
		adler, crc int
	}{
		{"", 1, 0},
		{"\x00", 0x00010001, 0xd202ef8d},
		{"a", 0x00620062, 0xe8b7be43},
		{"abc", 0x024d0127, 0x352441c2},
		{"message digest", 0x29750586, 0x20159d7f},
		{"abcdefghijklmnopqrstuvwxyz", 0x90860b20, 0x4c2750bd},
		{"123456789", 0x091e01de, 0xcbf43926},
		{"Wikipedia", 0x11e60398, 0xadaac02e},
		{"The quick brown fox jumps over the lazy dog", 0x5bdc0fda, 0x414fa339},
		{"IEND", 0x02d70121, 0xae426082},
		{"gAMA\x00\x00\xb1\x8f", 0x0a0b0277, 0x0bfc6105},
		{"IHDR\x00\x00\x00\x01\x00\x00\x00\x01\x08\x06\x00\x00\x00", 0x12320138, 0x1f15c489},
		{"\xff\xff\xff\xff", 0x09fa03fd, 0xffffffff},
		{"\x00\x00\x00\x00", 0x00040001, 0x2144df1c},
		{strings.Repeat("\x00", 32), 0x00200001, 0x190a55ad},
		{strings.Repeat("\xff", 32), 0x0e2e1fe1, 0xff6cab0b},
	} {
		if got := sums.Adler([]byte(x.word)); got != x.adler {
			t.Errorf("Adler of %q: %08x, not %08x", x.word, got, x.adler)
		}
		if got := sums.Crc([]byte(x.word)); got != x.crc {
			t.Errorf("Crc of %q: %08x, not %08x", x.word, got, x.crc)
		}
	}
}

// 6.1, R2: no bytes: 1 and 0, be it nil, empty, or empty with spare room.
func TestNoBytes(t *testing.T) {
	full := []byte("abc")
	for k, b := range [][]byte{nil, {}, make([]byte, 0, 9), full[:0], full[3:], full[1:1:1]} {
		if sums.Adler(b) != 1 || sums.Crc(b) != 0 {
			t.Errorf("%d: %x, %x", k, sums.Adler(b), sums.Crc(b))
		}
	}
}

// 6.1: each byte alone, and each one behind and ahead of others.
func TestEachByte(t *testing.T) {
	seen := map[int]int{}
	for n := range 256 {
		x := byte(n)
		alone := []byte{x}
		hold(t, alone)
		if got := sums.Adler(alone); got != (n+1)<<16|(n+1) {
			t.Errorf("Adler of %02x: %08x", n, got)
		}
		seen[sums.Crc(alone)]++
		for _, b := range [][]byte{{x, x}, {0, x}, {x, 0}, {255, x}, {x, 255}, {1, 2, x, 3, 4}} {
			hold(t, b)
		}
	}
	if len(seen) != 256 {
		t.Errorf("%d bytes have a Crc of their own", len(seen))
	}
}

// 6.1: each two bytes.
func TestEachTwoBytes(t *testing.T) {
	for n := range 1 << 16 {
		hold(t, []byte{byte(n >> 8), byte(n)})
	}
}

// 6.1: a bit that is turned turns both sums, wherever it lies; the Crc turns
// by what hangs on the place alone.
func TestTurnedBits(t *testing.T) {
	const size = 40
	one, other := sample.Bytes(size, 1), sample.Bytes(size, 2)
	adler, crc := map[int]int{}, map[int]int{}
	for k := range 8 * size {
		a, b := bytes.Clone(one), bytes.Clone(other)
		a[k/8] ^= 1 << (k % 8)
		b[k/8] ^= 1 << (k % 8)
		hold(t, a)
		hold(t, b)
		if sums.Adler(a) == sums.Adler(one) || sums.Crc(a) == sums.Crc(one) {
			t.Errorf("bit %d is not told", k)
		}
		if sums.Crc(a)^sums.Crc(one) != sums.Crc(b)^sums.Crc(other) {
			t.Errorf("bit %d turns the Crc of some bytes otherwise than of others", k)
		}
		adler[sums.Adler(a)]++
		crc[sums.Crc(a)]++
	}
	if len(crc) != 8*size {
		t.Errorf("%d bits of %d have a Crc of their own", len(crc), 8*size)
	}
	if len(adler) < 2*size {
		t.Errorf("%d bits of %d have an Adler of their own", len(adler), 8*size)
	}
}

// 6.1: bytes that stand in another order have other sums.
func TestOrder(t *testing.T) {
	b := sample.Bytes(64, 5)
	for k := 1; k < len(b); k++ {
		if b[k] == b[k-1] {
			continue
		}
		a := bytes.Clone(b)
		a[k], a[k-1] = a[k-1], a[k]
		hold(t, a)
		if sums.Adler(a) == sums.Adler(b) || sums.Crc(a) == sums.Crc(b) {
			t.Errorf("%d and %d: changed about, and not told", k-1, k)
		}
	}
}

// 6.1: bytes of each length up to one that has gone round.
func TestEachLength(t *testing.T) {
	b := sample.Bytes(700, 7)
	for n := range len(b) + 1 {
		hold(t, b[:n])
		hold(t, b[n:])
	}
}

// 6.1: long ones, about the lengths where a way of adding up could turn, of
// bytes that are 0, the greatest, and mixed; held against the library too.
func TestLong(t *testing.T) {
	const most = 1 << 18
	kinds := map[string][]byte{
		"zeros":    make([]byte, most+1),
		"greatest": bytes.Repeat([]byte{255}, most+1),
		"mixed":    sample.Bytes(most+1, 11),
	}
	for name, all := range kinds {
		for _, n := range []int{255, 257, 258, 3854, 5552, 5553, 1 << 12, 1 << 15, 65521, 1 << 16, 1 << 17, most} {
			for _, b := range [][]byte{all[:n-1], all[:n], all[1 : n+1], all[:n+1]} {
				hold(t, b)
				if got, want := sums.Adler(b), int(adler32.Checksum(b)); got != want {
					t.Errorf("Adler of %d %s: %08x, not %08x", len(b), name, got, want)
				}
				if got, want := sums.Crc(b), int(crc32.ChecksumIEEE(b)); got != want {
					t.Errorf("Crc of %d %s: %08x, not %08x", len(b), name, got, want)
				}
			}
		}
	}
}

// 6.1: halves that come just to 65520, to 65521 and beyond go round there.
func TestRound(t *testing.T) {
	// 256 times 255 and a 239 make the low half 65519 + 1.
	b := append(bytes.Repeat([]byte{255}, 256), 239)
	for _, x := range []struct{ last, low int }{{0, 65520}, {1, 0}, {2, 1}, {255, 254}} {
		c := append(bytes.Clone(b), byte(x.last))
		hold(t, c)
		if got := sums.Adler(c) & 0xffff; got != x.low {
			t.Errorf("and %d: the low half is %d, not %d", x.last, got, x.low)
		}
	}
	// Each 0 adds the low half, 1, to the high one.
	for _, x := range []struct{ n, high int }{{65520, 65520}, {65521, 0}, {65522, 1}, {3 * 65521, 0}} {
		if got := sums.Adler(make([]byte, x.n)); got != x.high<<16|1 {
			t.Errorf("%d zeros: %08x", x.n, got)
		}
	}
}

// 6.1: so many great bytes that sums which are not brought round on the way
// pass the end of 64 bits with a sign.
func TestVeryLong(t *testing.T) {
	if testing.Short() {
		t.Skip("takes much memory")
	}
	const n = 1<<28 + 1<<22
	b := make([]byte, n)
	for k := range b {
		b[k] = 255
	}
	const base = 65521
	low := (1 + 255*(n%base)) % base
	// The sum of 1 to n is taken round ahead of the product: it would not fit.
	high := (n%base + 255*(n/2*(n+1)%base)) % base
	if got := sums.Adler(b); got != high<<16|low {
		t.Errorf("%08x, not %08x", got, high<<16|low)
	}
}

// R2: what is handed in is as it was, ahead of it, in it and in its spare room.
func TestUnchanged(t *testing.T) {
	for _, n := range []int{0, 1, 7, 300, 70000} {
		room := sample.Bytes(n+64, 13)
		was := bytes.Clone(room)
		b := room[16 : 16+n : 16+n+32]
		sums.Adler(b)
		if !bytes.Equal(room, was) {
			t.Errorf("%d bytes: Adler changed them", n)
		}
		sums.Crc(b)
		if !bytes.Equal(room, was) {
			t.Errorf("%d bytes: Crc changed them", n)
		}
	}
}

// R2, R4: nothing is kept of what was handed in, and nothing but the bytes
// themselves is told: not where they lie, nor what lies about them.
func TestBytesAlone(t *testing.T) {
	want := sample.Bytes(333, 17)
	adler, crc := wantAdler(want), wantCrc(want)
	for k := range 40 {
		room := sample.Bytes(500, 100+k)
		copy(room[k:], want)
		b := room[k : k+len(want)]
		if sums.Adler(b) != adler || sums.Crc(b) != crc {
			t.Errorf("%d: %08x, %08x", k, sums.Adler(b), sums.Crc(b))
		}
		b[k] ^= 0x55
		hold(t, b)
		b[k] ^= 0x55
		if sums.Adler(b) != adler || sums.Crc(b) != crc {
			t.Errorf("%d: then %08x, %08x", k, sums.Adler(b), sums.Crc(b))
		}
	}
}
