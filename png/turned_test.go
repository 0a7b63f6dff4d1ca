package png_test

import (
	"encoding/binary"
	"hash/crc32"
	"slices"
	"testing"

	"versal/api"
	"versal/png"
	"versal/sample"
)

// chunks cuts a file of ours, behind its signature.
func chunks(b []byte) [][]byte {
	var out [][]byte
	for at := 8; at < len(b); {
		n := int(binary.BigEndian.Uint32(b[at:])) + 12
		out = append(out, b[at:at+n])
		at += n
	}
	return out
}

// mended puts a chunk's own CRC behind it.
func mended(c []byte) []byte {
	return binary.BigEndian.AppendUint32(c[:len(c)-4], crc32.ChecksumIEEE(c[4:len(c)-4]))
}

// seeds answers files of each form, with all kinds of chunks.
func seeds() [][]byte {
	var out [][]byte
	for k, f := range forms() {
		for _, laced := range []bool{false, true} {
			p := painted(f, size{1 + k%7, 1 + k%5}, k, 0)
			_, behind := p.plte()
			behind = append(behind, chunk("tEXt", sample.Bytes(k%4, k)...))
			lines := p.lines(laced, 5, "0")
			out = append(out, p.file(laced, lines, behind...))
			switch f.kind {
			case 0:
				behind = append(behind, chunk("tRNS", 0, byte(p.raw[0][0])))
			case 2:
				behind = append(behind, chunk("tRNS", sample.Bytes(6, k)...))
			case 3:
				behind = append(behind, chunk("tRNS", 1, 0))
			}
			out = append(out, p.file(laced, lines, behind...))
		}
	}
	i, _ := png.Lay(picked(3, 4, 1))
	return append(out, i)
}

// shuffle changes the order of a file's chunks, or what they are.
func shuffle(all [][]byte, pick func(int) int, seed int) [][]byte {
	k := pick(len(all))
	switch pick(7) {
	case 0:
		return slices.Delete(all, k, k+1)
	case 1:
		return slices.Insert(all, pick(len(all)+1), all[k])
	case 2:
		j := pick(len(all))
		all[k], all[j] = all[j], all[k]
	case 3:
		names := []string{"IHDR", "PLTE", "tRNS", "IDAT", "IEND", "abcd", "ABCD"}
		return slices.Insert(all, k, chunk(names[pick(len(names))], sample.Bytes(pick(20), seed)...))
	case 4:
		c := slices.Clone(all[k])
		c[4+pick(len(c)-8)] ^= 1 << pick(8)
		all[k] = mended(c)
	case 5:
		c := all[k]
		n := pick(len(c) - 11)
		all[k] = chunk(string(c[4:8]), c[8:8+n]...)
	}
	return all
}

// 11.2, R1: files whose chunks are turned, doubled, gone, cut, in another order,
// then cut or turned as a whole.
func TestTurned(t *testing.T) {
	from := seeds()
	told := map[api.Errno]int{}
	for seed := range 30000 {
		pick := sample.Source(seed)
		all := chunks(from[pick(len(from))])
		for range pick(3) {
			if len(all) > 0 {
				all = shuffle(all, pick, seed)
			}
		}
		b := file(all...)
		switch pick(8) {
		case 0:
			b = b[:pick(len(b)+1)]
		case 1:
			b[pick(len(b))] ^= 1 << pick(8)
		case 2:
			b = append(b, sample.Bytes(pick(3), seed)...)
		}
		told[holdExpected(t, "turned", b)]++
	}
	for _, e := range []api.Errno{api.OK, api.ErrForm, api.ErrShort, api.ErrBig, api.ErrMark} {
		if told[e] < 100 {
			t.Errorf("error %d: %d times", e, told[e])
		}
	}
}

// 11.2: streams whose deflated bytes are turned, each in a chunk that fits.
func TestTurnedStreams(t *testing.T) {
	told := map[api.Errno]int{}
	for seed := range 4000 {
		pick := sample.Source(seed)
		p := painted(forms()[pick(15)], size{1 + pick(12), 1 + pick(12)}, seed, 0)
		_, behind := p.plte()
		laced := pick(2) == 1
		flag := 0
		if laced {
			flag = 1
		}
		stream := packed(p.lines(laced, 5, "0"))
		for range pick(3) {
			stream[pick(len(stream))] ^= 1 << pick(8)
		}
		if pick(20) == 0 {
			stream = stream[:pick(len(stream))]
		}
		head := slices.Concat(ihdr(p.w, p.h, p.depth, p.kind, flag), slices.Concat(behind...))
		told[holdExpected(t, p.named(), file(head, chunk("IDAT", stream...), iend()))]++
	}
	for _, e := range []api.Errno{api.OK, api.ErrForm, api.ErrShort, api.ErrBig, api.ErrMark} {
		if told[e] < 10 {
			t.Errorf("error %d: %d times", e, told[e])
		}
	}
}

// 11.2, R1: any bytes at all: alone, behind the signature, as chunks that fit.
func TestAnyBytes(t *testing.T) {
	head, _, _ := gray1()
	for seed := range 3000 {
		b := sample.Bytes(sample.Source(seed)(60), seed)
		holdExpected(t, "any bytes", b)
		holdExpected(t, "behind the signature", append(file(), b...))
		holdExpected(t, "behind IHDR", append(file(head), b...))
		holdExpected(t, "as IHDR", file(chunk("IHDR", b...)))
		holdExpected(t, "as IDAT", file(head, chunk("IDAT", b...), iend()))
		holdExpected(t, "as what is deflated", file(head, chunk("IDAT", append([]byte{0x78, 0x9c}, b...)...), iend()))
	}
}
