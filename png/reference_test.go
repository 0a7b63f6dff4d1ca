package png_test

import (
	"bytes"
	stdzlib "compress/zlib"
	"encoding/binary"
	"hash/crc32"
	"regexp"
	"slices"
	"strconv"
	"strings"
	"testing"

	"versal/api"
	"versal/png"
	"versal/zlib"
)

const signature = "\x89PNG\r\n\x1a\n"

// chunk answers a whole chunk, its CRC by the library.
func chunk(name string, body ...byte) []byte {
	b := binary.BigEndian.AppendUint32(nil, uint32(len(body)))
	b = append(append(b, name...), body...)
	return binary.BigEndian.AppendUint32(b, crc32.ChecksumIEEE(b[4:]))
}

// broken answers a chunk whose CRC is another one.
func broken(name string, body ...byte) []byte {
	b := chunk(name, body...)
	b[len(b)-1] ^= 1
	return b
}

// file answers chunks behind the signature.
func file(chunks ...[]byte) []byte {
	return append([]byte(signature), bytes.Join(chunks, nil)...)
}

// ihdr answers an IHDR whose sides are any numbers of four bytes.
func ihdr(w, h, depth, kind, laced int) []byte {
	body := binary.BigEndian.AppendUint32(nil, uint32(w))
	body = binary.BigEndian.AppendUint32(body, uint32(h))
	return chunk("IHDR", append(body, byte(depth), byte(kind), 0, 0, byte(laced))...)
}

// packer is kept, as a new one takes longer than what it packs here.
var packer = stdzlib.NewWriter(nil)

// packed answers what the library makes of some bytes.
func packed(b []byte) []byte {
	var out bytes.Buffer
	packer.Reset(&out)
	packer.Write(b)
	packer.Close()
	return out.Bytes()
}

// idat answers an IDAT of these lines.
func idat(lines ...byte) []byte { return chunk("IDAT", packed(lines)...) }

// iend answers the last chunk.
func iend() []byte { return chunk("IEND") }

// one answers a pixel.
func one(r, g, b, a int) api.Pixel { return api.Pixel{R: r, G: g, B: b, A: a} }

// is holds what bytes decode to.
func is(t *testing.T, what string, b []byte, want api.Image) {
	t.Helper()
	i, e := png.Decode(b)
	if e != api.OK || i.W != want.W || i.H != want.H || !slices.Equal(i.Pix, want.Pix) {
		t.Errorf("11.2: %s: error %d, %d by %d, %.80v, not %d by %d, %.80v", what, e, i.W, i.H, i.Pix, want.W, want.H, want.Pix)
	}
	if e == api.OK && !png.Right(i) {
		t.Errorf("11.2: %s: what is decoded is not right", what)
	}
}

// fails holds that bytes are none, and that nothing stands beside the error (R3).
func fails(t *testing.T, what string, b []byte, code api.Errno) {
	t.Helper()
	i, e := png.Decode(b)
	if e != code {
		t.Errorf("11.2: %s: error %d, not %d", what, e, code)
	}
	if i.W != 0 || i.H != 0 || i.Pix != nil {
		t.Errorf("R3: %s: %d by %d, %d pixels beside error %d", what, i.W, i.H, len(i.Pix), e)
	}
}

// piece is a chunk that was cut out of a file.
type piece struct {
	name string
	body []byte
}

// expected is 11.2 said another way: the pieces are cut first, each is held
// against all those ahead of it, and the bits are read as a text of 0 and 1.
func expected(b []byte) (api.Image, api.Errno) {
	if len(b) < 8 {
		return api.Image{}, api.ErrShort
	}
	if !bytes.HasPrefix(b, []byte(signature)) {
		return api.Image{}, api.ErrForm
	}
	var ahead []piece
	rest := b[8:]
	for {
		p, n, e := cut(rest)
		if e == api.OK {
			e = complaint(ahead, p)
		}
		if e != api.OK {
			return api.Image{}, e
		}
		ahead, rest = append(ahead, p), rest[n:]
		if p.name == "IEND" {
			break
		}
	}
	if len(rest) > 0 {
		return api.Image{}, api.ErrForm
	}
	return drawn(ahead)
}

// cut answers the first piece and how many bytes it takes.
func cut(b []byte) (piece, int, api.Errno) {
	if len(b) < 8 {
		return piece{}, 0, api.ErrShort
	}
	n := int(binary.BigEndian.Uint32(b))
	if n >= 1<<31 {
		return piece{}, 0, api.ErrForm
	}
	if len(b) < n+12 {
		return piece{}, 0, api.ErrShort
	}
	if crc32.ChecksumIEEE(b[4:8+n]) != binary.BigEndian.Uint32(b[8+n:]) {
		return piece{}, 0, api.ErrMark
	}
	return piece{string(b[4:8]), b[8 : 8+n]}, n + 12, api.OK
}

// find answers the body of the first piece of this name, and whether there is
// one.
func find(all []piece, name string) ([]byte, bool) {
	for _, p := range all {
		if p.name == name {
			return p.body, true
		}
	}
	return nil, false
}

var (
	letters = regexp.MustCompile(`\A[A-Za-z]{4}\z`)
	small   = regexp.MustCompile(`\A[a-z]`)
	// allowed is types with depths, as PNG's table has them.
	allowed = []string{"0 1", "0 2", "0 4", "0 8", "0 16", "2 8", "2 16", "3 1", "3 2", "3 4", "3 8", "4 8", "4 16", "6 8", "6 16"}
)

// complaint answers what is wrong with a piece behind those ahead of it.
func complaint(ahead []piece, p piece) api.Errno {
	if (len(ahead) == 0) != (p.name == "IHDR") || !letters.MatchString(p.name) {
		return api.ErrForm
	}
	if p.name == "IHDR" {
		return headComplaint(p.body)
	}
	kind, depth := ahead[0].body[9], ahead[0].body[8]
	palette, paletted := find(ahead, "PLTE")
	_, cleared := find(ahead, "tRNS")
	_, begun := find(ahead, "IDAT")
	n := len(p.body)
	fine := true
	switch p.name {
	case "PLTE":
		fine = !begun && !paletted && kind != 0 && kind != 4 && n > 0 && n%3 == 0 && n <= 768
		fine = fine && (kind != 3 || n/3 <= []int{1: 2, 2: 4, 4: 16, 8: 256}[depth])
	case "tRNS":
		fine = !begun && !cleared && (kind == 0 && n == 2 || kind == 2 && n == 6 || kind == 3 && paletted && n <= len(palette)/3)
	case "IDAT":
		fine = (kind != 3 || paletted) && (!begun || ahead[len(ahead)-1].name == "IDAT")
	case "IEND":
		fine = n == 0 && begun
	default:
		fine = small.MatchString(p.name)
	}
	if !fine {
		return api.ErrForm
	}
	return api.OK
}

func headComplaint(b []byte) api.Errno {
	if len(b) != 13 {
		return api.ErrForm
	}
	w, h := binary.BigEndian.Uint32(b), binary.BigEndian.Uint32(b[4:])
	if min(w, h) == 0 {
		return api.ErrForm
	}
	if max(w, h) > 256 {
		return api.ErrBig
	}
	form := strconv.Itoa(int(b[9])) + " " + strconv.Itoa(int(b[8]))
	if !slices.Contains(allowed, form) || b[10] != 0 || b[11] != 0 || b[12] > 1 {
		return api.ErrForm
	}
	return api.OK
}

// lace tells of each pixel of eight by eight in which pass it comes.
var lace = [8]string{"16462646", "77777777", "56565656", "77777777", "36463646", "77777777", "56565656", "77777777"}

// ways answers for each pass its lines, and for each line the places of its
// pixels.
func ways(w, h int, laced bool) [][][][2]int {
	passes := "1234567"
	if !laced {
		passes = "."
	}
	var out [][][][2]int
	for _, pass := range []byte(passes) {
		var lines [][][2]int
		for y := range h {
			var line [][2]int
			for x := range w {
				if pass == '.' || lace[y%8][x%8] == pass {
					line = append(line, [2]int{x, y})
				}
			}
			if line != nil {
				lines = append(lines, line)
			}
		}
		out = append(out, lines)
	}
	return out
}

// channels answers how many samples a pixel of a type has.
func channels(kind int) int { return []int{1, 0, 3, 1, 2, 0, 4}[kind] }

// drawn answers the pixels of pieces that are in order.
func drawn(all []piece) (api.Image, api.Errno) {
	head := all[0].body
	w, h := int(binary.BigEndian.Uint32(head)), int(binary.BigEndian.Uint32(head[4:]))
	depth, kind := int(head[8]), int(head[9])
	wide := depth * channels(kind)
	var stream []byte
	for _, p := range all {
		if p.name == "IDAT" {
			stream = append(stream, p.body...)
		}
	}
	passes := ways(w, h, head[12] == 1)
	room := 0
	for _, pass := range passes {
		for _, line := range pass {
			room += 1 + (len(line)*wide+7)/8
		}
	}
	lines, e := zlib.Open(stream, room)
	if e != api.OK {
		return api.Image{}, e
	}
	if len(lines) != room {
		return api.Image{}, api.ErrForm
	}
	i := api.Image{W: w, H: h, Pix: make([]api.Pixel, w*h)}
	for _, pass := range passes {
		above := make([]byte, 1+(w*wide+7)/8)
		for _, line := range pass {
			n := 1 + (len(line)*wide+7)/8
			if lines[0] > 4 {
				return api.Image{}, api.ErrForm
			}
			was := unfiltered(lines[:n], above, max(1, wide/8))
			bits := bitsOf(was)
			for k, at := range line {
				p, ok := shown(all, kind, depth, bits[k*wide:(k+1)*wide])
				if !ok {
					return api.Image{}, api.ErrForm
				}
				i.Pix[at[1]*w+at[0]] = p
			}
			copy(above, was)
			lines = lines[n:]
		}
	}
	return i, api.OK
}

// unfiltered answers a line as it was, its filter's byte told ahead of it.
func unfiltered(line, above []byte, bpp int) []byte {
	out := make([]byte, len(line)-1)
	for k := range out {
		a, b, c := 0, int(above[k]), 0
		if k >= bpp {
			a, c = int(out[k-bpp]), int(above[k-bpp])
		}
		near := a
		pa, pb, pc := max(b-c, c-b), max(a-c, c-a), max(a+b-2*c, 2*c-a-b)
		if pb < pa {
			near, pa = b, pb
		}
		if pc < pa {
			near = c
		}
		out[k] = line[k+1] + byte([]int{0, a, b, (a + b) / 2, near}[line[0]])
	}
	return out
}

func bitsOf(b []byte) string {
	var s strings.Builder
	for _, x := range b {
		s.WriteString(strconv.FormatInt(int64(x)+256, 2)[1:])
	}
	return s.String()
}

// shown answers a pixel of its bits; none, if the palette lacks it.
func shown(all []piece, kind, depth int, bits string) (api.Pixel, bool) {
	clear, cleared := find(all, "tRNS")
	var raw, s []int
	for k := 0; k < len(bits); k += depth {
		n, _ := strconv.ParseInt(bits[k:k+depth], 2, 0)
		raw = append(raw, int(n))
		if depth == 16 {
			s = append(s, int(n)/256)
		} else {
			s = append(s, int(n)*[]int{1: 255, 2: 85, 4: 17, 8: 1}[depth])
		}
	}
	a := 255
	if cleared && kind != 3 {
		a = 0
		for k, n := range raw {
			if n != int(clear[2*k])*256+int(clear[2*k+1]) {
				a = 255
			}
		}
	}
	switch kind {
	case 0:
		return one(s[0], s[0], s[0], a), true
	case 2:
		return one(s[0], s[1], s[2], a), true
	case 4:
		return one(s[0], s[0], s[0], s[1]), true
	case 6:
		return one(s[0], s[1], s[2], s[3]), true
	}
	palette, _ := find(all, "PLTE")
	n := raw[0]
	if 3*n >= len(palette) {
		return api.Pixel{}, false
	}
	if n < len(clear) {
		a = int(clear[n])
	}
	return one(int(palette[3*n]), int(palette[3*n+1]), int(palette[3*n+2]), a), true
}

// holdExpected holds what b is expected to be, and answers its error.
func holdExpected(t *testing.T, what string, b []byte) api.Errno {
	t.Helper()
	want, e := expected(b)
	if e != api.OK {
		fails(t, what, b, e)
	} else {
		is(t, what, b, want)
	}
	return e
}
