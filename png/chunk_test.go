package png_test

import (
	"encoding/binary"
	"slices"
	"strconv"
	"testing"

	"versal/api"
	"versal/sample"
)

// gray1 answers a gray pixel's chunks, and what they show.
func gray1() (head, data []byte, want api.Image) {
	return ihdr(1, 1, 8, 0, 0), idat(0, 5), api.Image{W: 1, H: 1, Pix: []api.Pixel{one(5, 5, 5, 255)}}
}

// 11.2: fewer than 8 bytes are short, whichever they are.
func TestFewerThanEight(t *testing.T) {
	fails(t, "nil", nil, api.ErrShort)
	for n := range 8 {
		fails(t, "the signature's first", []byte(signature)[:n], api.ErrShort)
		fails(t, "in the spare room", []byte(signature + "rest")[:n], api.ErrShort)
		fails(t, "zeros", make([]byte, n), api.ErrShort)
		fails(t, "others", sample.Bytes(n, n), api.ErrShort)
	}
}

// 11.2: another signature: each of its bits turned, alone and ahead of a file.
func TestOtherSignature(t *testing.T) {
	head, data, want := gray1()
	good := file(head, data, iend())
	is(t, "as it was", good, want)
	for k := range 8 {
		for bit := range 8 {
			b := slices.Clone(good)
			b[k] ^= 1 << bit
			fails(t, "the signature turned", b, api.ErrForm)
			fails(t, "the signature turned, nothing behind", b[:8], api.ErrForm)
			fails(t, "the signature turned, cut off", b[:8+k], api.ErrForm)
		}
	}
	fails(t, "zeros", make([]byte, 8), api.ErrForm)
	fails(t, "as a text of lines turned", []byte("\x89PNG\n\n\x1a\n........"), api.ErrForm)
	fails(t, "the signature alone", []byte(signature), api.ErrShort)
}

// 11.2: a file cut at each of its bytes.
func TestCut(t *testing.T) {
	palette := chunk("PLTE", sample.Bytes(12, 1)...)
	p := painted(form{3, 2}, size{5, 3}, 3, 0)
	stream := packed(p.lines(true, 5, "0"))
	b := file(ihdr(5, 3, 2, 3, 1), chunk("gAMA", 0, 0, 1, 1), palette, chunk("tRNS", 1, 2),
		chunk("IDAT", stream[:5]...), chunk("IDAT"), chunk("IDAT", stream[5:]...), chunk("tEXt", sample.Bytes(9, 1)...), iend())
	both(t, "whole", b)
	for n := range b {
		fails(t, "cut at "+strconv.Itoa(n), b[:n], api.ErrShort)
		fails(t, "cut at "+strconv.Itoa(n)+", no spare room", b[:n:n], api.ErrShort)
	}
}

// 11.2: lengths of 2^31 - 1 and above, with and without what is behind them.
func TestGreatLengths(t *testing.T) {
	head, data, _ := gray1()
	for _, c := range []struct {
		n    uint32
		code api.Errno
	}{
		{13, api.ErrShort}, {1 << 16, api.ErrShort}, {1<<31 - 2, api.ErrShort}, {1<<31 - 1, api.ErrShort},
		{1 << 31, api.ErrForm}, {1<<31 + 1, api.ErrForm}, {1<<31 + 13, api.ErrForm}, {1<<32 - 13, api.ErrForm},
		{1<<32 - 12, api.ErrForm}, {1<<32 - 8, api.ErrForm}, {1<<32 - 4, api.ErrForm}, {1<<32 - 1, api.ErrForm},
	} {
		for _, name := range []string{"IHDR", "IDAT", "abcd", "ABCD", "....", "IEND"} {
			ahead := append(binary.BigEndian.AppendUint32(nil, c.n), name...)
			what := name + " of " + strconv.Itoa(int(c.n))
			for _, before := range [][]byte{file(), file(head), file(head, data)} {
				fails(t, what, append(slices.Clone(before), ahead...), c.code)
				for n := range 8 {
					fails(t, what+", cut at "+strconv.Itoa(n), append(slices.Clone(before), ahead[:n]...), api.ErrShort)
				}
				fails(t, what+", little behind", append(append(slices.Clone(before), ahead...), sample.Bytes(12, 3)...), c.code)
			}
		}
	}
}

// 11.2: a length that is one more or less than the bytes are.
func TestLengthsTurned(t *testing.T) {
	head, data, want := gray1()
	b := file(head, chunk("abcd", 7, 8, 9), data, iend())
	is(t, "as it was", b, want)
	at := 8 + len(head)
	b[at+3]++
	fails(t, "one more", b, api.ErrMark)
	b[at+3] -= 2
	fails(t, "one less", b, api.ErrMark)
	b[at+2] = 1
	fails(t, "256 more", b, api.ErrShort)
}

// 11.2: each bit of each chunk turned but those of the lengths: its CRC is
// another one, whatever its name is now.
func TestEachBitTurned(t *testing.T) {
	head, data, _ := gray1()
	parts := [][]byte{[]byte(signature), head, chunk("tEXt", 1, 2), chunk("tRNS", 0, 1), data, iend()}
	for k := 1; k < len(parts); k++ {
		for at := 4; at < len(parts[k]); at++ {
			for bit := range 8 {
				turned := slices.Clone(parts)
				turned[k] = slices.Clone(parts[k])
				turned[k][at] ^= 1 << bit
				fails(t, "chunk "+strconv.Itoa(k)+" at "+strconv.Itoa(at), slices.Concat(turned...), api.ErrMark)
			}
		}
	}
}

// 11.2: the CRC is named ahead of what a chunk would be refused for by its name.
func TestMarkAhead(t *testing.T) {
	head, data, _ := gray1()
	for _, c := range [][]byte{
		broken("IHDR"), broken("IHDR", 0, 0, 0, 0, 0, 0, 0, 0, 8, 0, 0, 0, 0), broken("PLTE"), broken("tRNS", 1), broken("IEND"),
		broken("IEND", 1), broken("ABCD"), broken("ab1d"), broken("\x00\x00\x00\x00"), broken("abcd"), broken("IDAT"),
	} {
		fails(t, "first", file(c, head, data, iend()), api.ErrMark)
		fails(t, "second", file(head, c, data, iend()), api.ErrMark)
		fails(t, "third", file(head, data, c, iend()), api.ErrMark)
		fails(t, "cut off", file(head, data, c[:len(c)-1]), api.ErrShort)
		fails(t, "behind one that is refused", file(head, chunk("ABCD"), c), api.ErrForm)
		fails(t, "ahead of one that is refused", file(head, c, chunk("ABCD")), api.ErrMark)
	}
}

// 11.2: a name of other than four letters, and one whose first letter is great:
// each sign at each of its places.
func TestNames(t *testing.T) {
	head, data, want := gray1()
	for place := range 4 {
		for x := range 256 {
			name := []byte("abCd")
			name[place] = byte(x)
			b := file(head, chunk(string(name), 1), data, iend())
			isSmall, isGreat := x >= 'a' && x <= 'z', x >= 'A' && x <= 'Z'
			if isSmall || isGreat && place > 0 {
				is(t, string(name), b, want)
			} else {
				fails(t, string(name), b, api.ErrForm)
			}
			fails(t, string(name)+" first", file(chunk(string(name), 1), head, data, iend()), api.ErrForm)
		}
	}
	for _, name := range []string{"Idat", "IDAt", "IHDr", "IENd", "PLTe", "TRNS", "AAAA", "ZZZZ", "Azzz", "CgBI", "sPL@", "ab[d", "ab`d", "ab{d", "a\x00\x00\x00", "aé12"[:4]} {
		fails(t, name, file(head, chunk(name), data, iend()), api.ErrForm)
		fails(t, name+" last", file(head, data, chunk(name), iend()), api.ErrForm)
	}
}

// 11.2: what stands behind IEND, whatever it is, ahead of what the stream says.
func TestBehindTheEnd(t *testing.T) {
	head, data, want := gray1()
	is(t, "nothing behind", file(head, data, iend()), want)
	for _, rest := range [][]byte{{0}, sample.Bytes(3, 1), sample.Bytes(40, 2), iend(), data, chunk("abcd"), broken("abcd"), []byte(signature), {0x80, 0, 0, 0, 'a', 'b', 'c', 'd'}} {
		fails(t, "behind IEND", append(file(head, data, iend()), rest...), api.ErrForm)
		for _, other := range [][]byte{chunk("IDAT"), idat(0), idat(0, 1, 2), idat(5, 1), chunk("IDAT", 1, 2, 3)} {
			fails(t, "behind IEND, another stream", append(file(head, other, iend()), rest...), api.ErrForm)
		}
	}
	good := append(file(head, data, iend()), 1, 2, 3)
	is(t, "in the spare room", good[:len(good)-3], want)
}

// 11.2: IEND that is not empty, and without an IDAT.
func TestEnds(t *testing.T) {
	head, data, _ := gray1()
	for _, n := range []int{1, 2, 13, 300} {
		fails(t, "not empty", file(head, data, chunk("IEND", sample.Bytes(n, n)...)), api.ErrForm)
		fails(t, "not empty, no IDAT", file(head, chunk("IEND", sample.Bytes(n, n)...)), api.ErrForm)
	}
	fails(t, "no IDAT", file(head, iend()), api.ErrForm)
	fails(t, "no IDAT, others", file(head, chunk("abcd"), chunk("tRNS", 0, 1), iend()), api.ErrForm)
	fails(t, "first", file(iend()), api.ErrForm)
	fails(t, "first, a file behind", file(iend(), head, data, iend()), api.ErrForm)
	fails(t, "none", file(head, data), api.ErrShort)
	fails(t, "none, others behind", file(head, data, chunk("abcd")), api.ErrShort)
}

// 11.2: chunk by chunk: the first one that is wrong counts, and at it what the
// chapter names first.
func TestOrder(t *testing.T) {
	head, data, _ := gray1()
	over := []byte{0x80, 0, 0, 0, 'A', 'B', 'C', 'D'}
	for _, c := range []struct {
		what string
		b    []byte
		code api.Errno
	}{
		{"a great side, then a length above all", file(ihdr(257, 1, 8, 0, 0), over), api.ErrBig},
		{"a length above all, then nothing", file(head, over), api.ErrForm},
		{"a wrong CRC, then a length above all", file(head, broken("abcd"), over), api.ErrMark},
		{"a wrong CRC of the last", file(head, data, broken("IEND")), api.ErrMark},
		{"a wrong CRC of the last, bytes behind", append(file(head, data, broken("IEND")), 1), api.ErrMark},
		{"a stream that is short, a wrong CRC", file(head, chunk("IDAT"), broken("IEND")), api.ErrMark},
		{"a stream that is short, no end", file(head, chunk("IDAT")), api.ErrShort},
		{"a stream that is wrong, no end", file(head, chunk("IDAT", 1, 2, 3)), api.ErrShort},
		{"a stream that is wrong, another chunk", file(head, chunk("IDAT", 1, 2, 3), chunk("ABCD")), api.ErrForm},
		{"a stream that is long, IEND not empty", file(head, idat(0, 1, 2), chunk("IEND", 1)), api.ErrForm},
		{"a stream that is long, cut off", file(head, idat(0, 1, 2), iend()[:11]), api.ErrShort},
		{"a great side, no IDAT", file(ihdr(1, 300, 8, 0, 0), iend()), api.ErrBig},
		{"not the first, and great", file(chunk("abcd"), ihdr(1, 300, 8, 0, 0)), api.ErrForm},
		{"twice, and great", file(head, ihdr(1, 300, 8, 0, 0)), api.ErrForm},
	} {
		fails(t, c.what, c.b, c.code)
	}
}
