package rows_test

import (
	"bytes"
	"compress/zlib"
	"encoding/binary"
	"hash/crc32"
	"image"
	"image/color"
	"image/png"
	"testing"

	"versal/api"
	"versal/rows"
	"versal/sample"
)

// form is a kind of image that the library reads: PNG's type and depth, and how
// many bytes a pixel takes.
type form struct{ kind, depth, bpp int }

func forms() []form {
	return []form{{0, 8, 1}, {4, 8, 2}, {0, 16, 2}, {2, 8, 3}, {6, 8, 4}, {4, 16, 4}, {2, 16, 6}, {6, 16, 8}}
}

func chunk(name string, body []byte) []byte {
	b := binary.BigEndian.AppendUint32(nil, uint32(len(body)))
	b = append(append(b, name...), body...)
	return binary.BigEndian.AppendUint32(b, crc32.ChecksumIEEE(b[4:]))
}

// file answers a PNG file about lines that are filtered.
func file(t *testing.T, f form, w, h, interlace int, lines []byte) []byte {
	t.Helper()
	var packed bytes.Buffer
	to := zlib.NewWriter(&packed)
	to.Write(lines)
	to.Close()
	head := binary.BigEndian.AppendUint32(nil, uint32(w))
	head = binary.BigEndian.AppendUint32(head, uint32(h))
	head = append(head, byte(f.depth), byte(f.kind), 0, 0, byte(interlace))
	b := append([]byte("\x89PNG\r\n\x1a\n"), chunk("IHDR", head)...)
	b = append(b, chunk("IDAT", packed.Bytes())...)
	return append(b, chunk("IEND", nil)...)
}

// part answers line y of the pixels of a pass.
func part(p rows.Pass, y, w, bpp int, pixels []byte) []byte {
	var line []byte
	for x := range p.W {
		at := ((p.Y+y*p.DY)*w + p.X + x*p.DX) * bpp
		line = append(line, pixels[at:at+bpp]...)
	}
	return line
}

// filtered answers the lines of each pass, each with its filter's byte: kind k
// for all, or each in turn where k is 5.
func filtered(t *testing.T, passes []rows.Pass, k, w, bpp int, pixels []byte) []byte {
	t.Helper()
	var out []byte
	for _, p := range passes {
		var above []byte
		for y := range p.H {
			kind := k
			if k == 5 {
				kind = y % 5
			}
			line := part(p, y, w, bpp, pixels)
			done, e := rows.Do(kind, bpp, line, above)
			if e != api.OK {
				t.Fatalf("10.1: Do(%d, %d): %d", kind, bpp, e)
			}
			out = append(append(out, byte(kind)), done...)
			above = line
		}
	}
	return out
}

// shown answers what the library reads out of a file, pixel by pixel.
func shown(t *testing.T, b []byte) []color.Color {
	t.Helper()
	i, err := png.Decode(bytes.NewReader(b))
	if err != nil {
		t.Fatal(err)
	}
	var out []color.Color
	for y := range i.Bounds().Dy() {
		for x := range i.Bounds().Dx() {
			out = append(out, i.At(x, y))
		}
	}
	return out
}

// 10.1: the library reads what Do filters, in the order of Passes or line by
// line, as it reads the same pixels without a filter.
func TestLibraryReads(t *testing.T) {
	for _, f := range forms() {
		for _, size := range [][2]int{{1, 1}, {2, 3}, {5, 5}, {8, 8}, {9, 17}, {31, 4}, {40, 33}} {
			w, h := size[0], size[1]
			pixels := sample.Bytes(w*h*f.bpp, w+h)
			whole := []rows.Pass{{DX: 1, DY: 1, W: w, H: h}}
			want := shown(t, file(t, f, w, h, 0, filtered(t, whole, 0, w, f.bpp, pixels)))
			for k := range 6 {
				lines := filtered(t, whole, k, w, f.bpp, pixels)
				laced := filtered(t, rows.Passes(w, h), k, w, f.bpp, pixels)
				plain, turned := shown(t, file(t, f, w, h, 0, lines)), shown(t, file(t, f, w, h, 1, laced))
				for at := range want {
					if plain[at] != want[at] || turned[at] != want[at] {
						t.Fatalf("10.1: filter %d of %+v, %d by %d: pixel %d", k, f, w, h, at)
					}
				}
			}
		}
	}
}

// smooth answers pixels that go slowly, for which a writer takes filters.
func smooth(w, h int) *image.NRGBA {
	i := image.NewNRGBA(image.Rect(0, 0, w, h))
	for k := range i.Pix {
		x, y, c := k/4%w, k/4/w, k%4
		i.Pix[k] = byte(x*(c+1)*3 + y*y/(c+2) + x*y/7)
	}
	return i
}

// stream answers the lines in a file that the library wrote.
func stream(t *testing.T, b []byte) []byte {
	t.Helper()
	var packed []byte
	for at := 8; at+8 <= len(b); {
		n := int(binary.BigEndian.Uint32(b[at:]))
		if string(b[at+4:at+8]) == "IDAT" {
			packed = append(packed, b[at+8:at+8+n]...)
		}
		at += 12 + n
	}
	from, err := zlib.NewReader(bytes.NewReader(packed))
	if err != nil {
		t.Fatal(err)
	}
	var out bytes.Buffer
	if _, err := out.ReadFrom(from); err != nil {
		t.Fatal(err)
	}
	return out.Bytes()
}

// 10.1: Undo reads what the library filters, and Do filters it the same.
func TestLibraryWrites(t *testing.T) {
	kinds := map[int]int{}
	for _, size := range [][2]int{{1, 1}, {3, 2}, {17, 9}, {64, 64}, {256, 256}} {
		w, h := size[0], size[1]
		i := smooth(w, h)
		var b bytes.Buffer
		if err := png.Encode(&b, i); err != nil {
			t.Fatal(err)
		}
		lines := stream(t, b.Bytes())
		var above []byte
		for y := range h {
			line := lines[y*(4*w+1) : (y+1)*(4*w+1)]
			kind := int(line[0])
			kinds[kind]++
			was, e := rows.Undo(kind, 4, line[1:], above)
			if e != api.OK || !bytes.Equal(was, i.Pix[y*i.Stride:y*i.Stride+4*w]) {
				t.Fatalf("10.1: Undo of the library's line %d of %d by %d, kind %d", y, w, h, kind)
			}
			if done, e := rows.Do(kind, 4, was, above); e != api.OK || !bytes.Equal(done, line[1:]) {
				t.Fatalf("10.1: Do as the library's line %d of %d by %d, kind %d", y, w, h, kind)
			}
			above = was
		}
	}
	if len(kinds) < 3 {
		t.Errorf("the library took few kinds: %v", kinds)
	}
}
