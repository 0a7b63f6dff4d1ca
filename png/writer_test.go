package png_test

import (
	"strconv"
	"strings"

	"versal/api"
	"versal/rows"
	"versal/sample"
)

// form is a type with a depth.
type form struct{ kind, depth int }

// forms answers all that PNG allows.
func forms() []form {
	return []form{
		{0, 1}, {0, 2}, {0, 4}, {0, 8}, {0, 16}, {2, 8}, {2, 16},
		{3, 1}, {3, 2}, {3, 4}, {3, 8}, {4, 8}, {4, 16}, {6, 8}, {6, 16},
	}
}

// size answers the sides of an image.
type size struct{ w, h int }

// picture is what a file is written of: the samples of each pixel, row by row,
// as they stand in it.
type picture struct {
	form
	size
	raw [][]int
}

// painted answers a picture of samples below so many, 0 for all that there are.
func painted(f form, s size, seed, most int) picture {
	if most == 0 {
		most = 1 << f.depth
	}
	p := picture{form: f, size: s}
	pick := sample.Source(seed)
	for range s.w * s.h {
		var pixel []int
		for range channels(f.kind) {
			pixel = append(pixel, pick(most))
		}
		p.raw = append(p.raw, pixel)
	}
	return p
}

// line answers the bytes of the pixels at these places, the bits left over
// being ones if spare is 1.
func (p picture) line(places [][2]int, spare string) []byte {
	var all strings.Builder
	for _, at := range places {
		for _, n := range p.raw[at[1]*p.w+at[0]] {
			all.WriteString(strconv.FormatInt(int64(n)+1<<p.depth, 2)[1:])
		}
	}
	for all.Len()%8 != 0 {
		all.WriteString(spare)
	}
	bits := all.String()
	var out []byte
	for ; bits != ""; bits = bits[8:] {
		n, _ := strconv.ParseUint(bits[:8], 2, 8)
		out = append(out, byte(n))
	}
	return out
}

// lines answers all lines of all passes: filtered by kind, by each in turn
// where it is 5.
func (p picture) lines(laced bool, kind int, spare string) []byte {
	var out []byte
	for _, pass := range ways(p.w, p.h, laced) {
		var above []byte
		for y, places := range pass {
			filter := kind
			if kind == 5 {
				filter = (y*3 + len(out)) % 5
			}
			line := p.line(places, spare)
			done, e := rows.Do(filter, max(1, p.depth*channels(p.kind)/8), line, above)
			if e != api.OK {
				panic("no filter")
			}
			out = append(append(out, byte(filter)), done...)
			above = line
		}
	}
	return out
}

// file answers a whole file of the picture, some chunks behind its IHDR.
func (p picture) file(laced bool, lines []byte, behind ...[]byte) []byte {
	flag := 0
	if laced {
		flag = 1
	}
	all := [][]byte{ihdr(p.w, p.h, p.depth, p.kind, flag)}
	all = append(all, behind...)
	return file(append(all, idat(lines...), iend())...)
}

// greatest answers the most that a sample of a depth may be.
func greatest(depth int) int { return 1<<depth - 1 }

// image answers the picture as it is decoded, without a tRNS.
func (p picture) image(palette []byte) api.Image {
	i := api.Image{W: p.w, H: p.h}
	for _, raw := range p.raw {
		var s []int
		for _, n := range raw {
			if p.depth == 16 {
				s = append(s, n/256)
			} else {
				s = append(s, n*255/greatest(p.depth))
			}
		}
		var c api.Pixel
		switch p.kind {
		case 0:
			c = one(s[0], s[0], s[0], 255)
		case 2:
			c = one(s[0], s[1], s[2], 255)
		case 3:
			at := palette[3*raw[0]:]
			c = one(int(at[0]), int(at[1]), int(at[2]), 255)
		case 4:
			c = one(s[0], s[0], s[0], s[1])
		case 6:
			c = one(s[0], s[1], s[2], s[3])
		}
		i.Pix = append(i.Pix, c)
	}
	return i
}
