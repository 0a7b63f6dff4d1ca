package blend_test

import (
	"math"
	"sort"
	"testing"

	"versal/api"
	"versal/blend"
)

// What follows works the chapter's words out in another way: the tables' texts
// are looked up, no quotient is taken, a floor is looked for, and each number is
// worked out by itself.

// names are the modes', by their numbers.
var names = [28]string{
	"clear", "src", "dest", "src over", "dest over", "src in", "dest in", "src out", "dest out", "src atop", "dest atop", "xor", "plus",
	"screen", "overlay", "darken", "lighten", "color dodge", "color burn", "hard light", "soft light", "difference", "exclusion", "multiply",
	"hue", "saturation", "color", "luminosity",
}

// laws are F and G of the first table, as it says them.
var laws = map[string][2]string{
	"clear": {"0", "0"}, "src": {"255", "0"}, "dest": {"0", "255"},
	"src over": {"255", "not(s.A)"}, "dest over": {"not(d.A)", "255"},
	"src in": {"d.A", "0"}, "dest in": {"0", "s.A"},
	"src out": {"not(d.A)", "0"}, "dest out": {"0", "not(s.A)"},
	"src atop": {"d.A", "not(s.A)"}, "dest atop": {"not(d.A)", "s.A"},
	"xor": {"not(d.A)", "not(s.A)"}, "plus": {"255", "255"},
}

func px(r, g, b, a int) api.Pixel { return api.Pixel{R: r, G: g, B: b, A: a} }

func numbers(p api.Pixel) [4]int { return [4]int{p.R, p.G, p.B, p.A} }

func ofNumbers(n [4]int) api.Pixel { return px(n[0], n[1], n[2], n[3]) }

// put answers p with n at the place k of the four.
func put(p api.Pixel, k, n int) api.Pixel {
	list := numbers(p)
	list[k] = n
	return ofNumbers(list)
}

// floored answers the greatest whole number that times d, which is above 0, is
// not above n.
func floored(n, d int) int {
	if n < 0 {
		return -sort.Search(-n+1, func(q int) bool { return q*d >= -n })
	}
	return sort.Search(n+1, func(q int) bool { return (q+1)*d > n })
}

func lesser(a, b int) int {
	if a < b {
		return a
	}
	return b
}

func greater(a, b int) int {
	if a > b {
		return a
	}
	return b
}

// parts is the Part of every pair of numbers 0 to 255.
var parts = everyPart()

func everyPart() (out [256][256]int) {
	for a := range out {
		for b := range out[a] {
			out[a][b] = floored(a*b+127, 255)
		}
	}
	return out
}

// factor answers what a text of the first table is.
func factor(text string, s, d api.Pixel) int {
	return map[string]int{"0": 0, "255": 255, "s.A": s.A, "d.A": d.A, "not(s.A)": 255 - s.A, "not(d.A)": 255 - d.A}[text]
}

func wantPlain(name string, s, d api.Pixel) api.Pixel {
	f, g := factor(laws[name][0], s, d), factor(laws[name][1], s, d)
	above, below := numbers(s), numbers(d)
	for k := range above {
		above[k] = lesser(255, parts[above[k]][f]+parts[below[k]][g])
	}
	return ofNumbers(above)
}

// wantBare answers a number of a premultiplied pixel as it is without its alpha.
func wantBare(n, alpha int) int {
	if alpha == 0 {
		return 0
	}
	return lesser(255, floored(n*255+floored(alpha, 2), alpha))
}

func wantScreen(c, b int) int { return 255 - parts[255-c][255-b] }

func wantHard(c, b int) int {
	if c > 127 {
		return wantScreen(2*c-255, b)
	}
	return parts[2*c][b]
}

func wantDodge(c, b int) int {
	switch {
	case b == 0:
		return 0
	case c == 255:
		return 255
	}
	return lesser(255, floored(b*255, 255-c))
}

func wantBurn(c, b int) int {
	switch {
	case b == 255:
		return 255
	case c == 0:
		return 0
	}
	return 255 - lesser(255, floored((255-b)*255, c))
}

// wantAlone answers B of a mode 13 to 23.
func wantAlone(name string, c, b int) int {
	switch name {
	case "screen":
		return wantScreen(c, b)
	case "overlay":
		return wantHard(b, c)
	case "darken":
		return lesser(c, b)
	case "lighten":
		return greater(c, b)
	case "color dodge":
		return wantDodge(c, b)
	case "color burn":
		return wantBurn(c, b)
	case "hard light":
		return wantHard(c, b)
	case "soft light":
		return lesser(255, parts[255-c][parts[b][b]]+parts[c][wantScreen(b, b)])
	case "difference":
		return greater(c, b) - lesser(c, b)
	case "exclusion":
		return greater(0, c+b-2*parts[c][b])
	case "multiply":
		return parts[c][b]
	}
	panic("no mode that asks each alone: " + name)
}

func wantLum(x [3]int) int { return floored(30*x[0]+59*x[1]+11*x[2], 100) }

func ends(x [3]int) (least, greatest int) {
	list := []int{x[0], x[1], x[2]}
	sort.Ints(list)
	return list[0], list[2]
}

func wantSat(x [3]int) int {
	least, greatest := ends(x)
	return greatest - least
}

// wantSated answers the number k of Sated.
func wantSated(x [3]int, n, k int) int {
	least, greatest := ends(x)
	if greatest == least {
		return 0
	}
	return floored((x[k]-least)*n, greatest-least)
}

// wantLit answers the number k of Lit.
func wantLit(x [3]int, n, k int) int {
	more := n - wantLum(x)
	x = [3]int{x[0] + more, x[1] + more, x[2] + more}
	l := wantLum(x)
	m, g := ends(x)
	it := x[k]
	if m < 0 && m != l {
		it = l + floored((it-l)*l, l-m)
	}
	if g > 255 && g != l {
		it = l + floored((it-l)*(255-l), g-l)
	}
	return greater(0, lesser(255, it))
}

func all(f func(k int) int) [3]int { return [3]int{f(0), f(1), f(2)} }

// wantMade answers B of a mode 13 to 27.
func wantMade(name string, c, b [3]int) [3]int {
	switch name {
	case "hue":
		x := all(func(k int) int { return wantSated(c, wantSat(b), k) })
		return all(func(k int) int { return wantLit(x, wantLum(b), k) })
	case "saturation":
		x := all(func(k int) int { return wantSated(b, wantSat(c), k) })
		return all(func(k int) int { return wantLit(x, wantLum(b), k) })
	case "color":
		return all(func(k int) int { return wantLit(c, wantLum(b), k) })
	case "luminosity":
		return all(func(k int) int { return wantLit(b, wantLum(c), k) })
	}
	return all(func(k int) int { return wantAlone(name, c[k], b[k]) })
}

// want answers what a mode makes of two premultiplied pixels.
func want(mode int, s, d api.Pixel) api.Pixel {
	if mode < 13 {
		return wantPlain(names[mode], s, d)
	}
	above, below := numbers(s), numbers(d)
	c := all(func(k int) int { return wantBare(above[k], s.A) })
	b := all(func(k int) int { return wantBare(below[k], d.A) })
	made := wantMade(names[mode], c, b)
	alpha := lesser(255, s.A+parts[d.A][255-s.A])
	out := all(func(k int) int {
		return lesser(alpha, parts[above[k]][255-d.A]+parts[below[k]][255-s.A]+parts[parts[s.A][d.A]][made[k]])
	})
	return px(out[0], out[1], out[2], alpha)
}

// check holds one answer against the other reading, and against 13.3.
func check(t *testing.T, mode int, s, d api.Pixel) {
	t.Helper()
	got, ok := blend.Blend(mode, s, d)
	if wanted := want(mode, s, d); !ok || got != wanted {
		t.Fatalf("13.1: mode %d (%s) of %v upon %v is %v, %v, want %v", mode, names[mode], s, d, got, ok, wanted)
	}
	if max(got.R, got.G, got.B) > got.A || min(got.R, got.G, got.B) < 0 || got.A > 255 {
		t.Fatalf("13.3: mode %d (%s) of %v upon %v is %v", mode, names[mode], s, d, got)
	}
}

// edges answers every premultiplied pixel whose numbers are all edges.
func edges() []api.Pixel {
	var out []api.Pixel
	list := []int{0, 1, 127, 128, 254, 255}
	for _, a := range list {
		for _, r := range list {
			for _, g := range list {
				for _, b := range list {
					if max(r, g, b) <= a {
						out = append(out, px(r, g, b, a))
					}
				}
			}
		}
	}
	return out
}

// spread answers premultiplied pixels of all kinds, the same ones at each run:
// one of four is opaque.
func spread(count int) []api.Pixel {
	out := make([]api.Pixel, count)
	state := uint64(88172645463325252)
	for k := range out {
		state ^= state << 13
		state ^= state >> 7
		state ^= state << 17
		a := int(state >> 44 & 255)
		if k%4 == 3 {
			a = 255
		}
		out[k] = px(int(state>>8&0xfff)%(a+1), int(state>>20&0xfff)%(a+1), int(state>>32&0xfff)%(a+1), a)
	}
	return out
}

// beyond answers numbers that no pixel has, those among them that are one in
// their lower 8, 16 or 32 bits.
func beyond() []int {
	return []int{
		-1, -2, -128, -255, -256, -65536, -1 << 31, -1<<32 + 7, math.MinInt, math.MinInt + 1, math.MinInt + 200,
		256, 257, 300, 511, 65536, 65791, 1<<31 - 1, 1 << 32, 1<<32 + 100, 1 << 62, math.MaxInt - 1, math.MaxInt,
	}
}
