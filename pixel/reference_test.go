package pixel_test

import (
	"math"
	"sort"

	"versal/api"
)

// What follows works the chapter's words out number by number, in another way:
// no quotient is taken, a floor is looked for.

// places names a pixel's four numbers, in their order.
var places = [4]string{"R", "G", "B", "A"}

func px(r, g, b, a int) api.Pixel { return api.Pixel{R: r, G: g, B: b, A: a} }

func numbers(p api.Pixel) [4]int { return [4]int{p.R, p.G, p.B, p.A} }

func ofNumbers(n [4]int) api.Pixel { return px(n[0], n[1], n[2], n[3]) }

// put answers p with n at the place k of the four.
func put(p api.Pixel, k, n int) api.Pixel {
	list := numbers(p)
	list[k] = n
	return ofNumbers(list)
}

// floored answers the greatest whole number that times d is not above n. Both
// are at least 0, d is above it.
func floored(n, d int) int {
	return sort.Search(n+1, func(q int) bool { return (q+1)*d > n })
}

func brought(n, least, most int) int {
	switch {
	case n < least:
		return least
	case n > most:
		return most
	}
	return n
}

func lesser(a, b int) int {
	if a < b {
		return a
	}
	return b
}

func wantPart(a, b int) int {
	return floored(brought(a, 0, 255)*brought(b, 0, 255)+127, 255)
}

func wantRight(p api.Pixel) bool {
	for _, n := range numbers(p) {
		if n != brought(n, 0, 255) {
			return false
		}
	}
	return true
}

// counts answers the four numbers of p as it counts.
func counts(p api.Pixel) [4]int {
	if !wantRight(p) {
		return [4]int{}
	}
	return numbers(p)
}

func wantPremultiplied(p api.Pixel) bool {
	return wantRight(p) && p.R <= p.A && p.G <= p.A && p.B <= p.A
}

func wantPre(p api.Pixel) api.Pixel {
	list := counts(p)
	for k := range 3 {
		list[k] = wantPart(list[k], list[3])
	}
	return ofNumbers(list)
}

func wantBare(p api.Pixel) api.Pixel {
	list := counts(p)
	if list[3] == 0 {
		return px(0, 0, 0, 0)
	}
	for k := range 3 {
		list[k] = lesser(255, floored(list[k]*255+floored(list[3], 2), list[3]))
	}
	return ofNumbers(list)
}

func wantScale(p api.Pixel, n int) api.Pixel {
	list := counts(p)
	for k := range list {
		list[k] = wantPart(list[k], n)
	}
	return ofNumbers(list)
}

func wantOver(s, d api.Pixel) api.Pixel {
	list, below := counts(s), counts(d)
	rest := 255 - list[3]
	for k := range list {
		list[k] = lesser(255, list[k]+wantPart(below[k], rest))
	}
	return ofNumbers(list)
}

func wantMix(a, b api.Pixel, t int) api.Pixel {
	from, to := counts(a), counts(b)
	t = brought(t, 0, 65536)
	for k := range from {
		from[k] = floored(from[k]*(65536-t)+to[k]*t+32768, 65536)
	}
	return ofNumbers(from)
}

func wantBytes(l []api.Pixel) []byte {
	var out []byte
	for _, p := range l {
		for _, n := range counts(p) {
			out = append(out, byte(n))
		}
	}
	return out
}

// edges answers every pixel whose numbers are all edges.
func edges() []api.Pixel {
	var out []api.Pixel
	list := []int{0, 1, 128, 254, 255}
	for _, r := range list {
		for _, g := range list {
			for _, b := range list {
				for _, a := range list {
					out = append(out, px(r, g, b, a))
				}
			}
		}
	}
	return out
}

// spread answers right pixels of all kinds, the same ones at each run.
func spread(count int) []api.Pixel {
	out := make([]api.Pixel, count)
	state := uint64(88172645463325252)
	for k := range out {
		state ^= state << 13
		state ^= state >> 7
		state ^= state << 17
		out[k] = px(int(state>>8&255), int(state>>20&255), int(state>>32&255), int(state>>44&255))
	}
	return out
}

// beyond answers numbers that no pixel has, those among them that are one in
// their lower 8, 16 or 32 bits.
func beyond() []int {
	return []int{
		-1, -2, -128, -255, -256, -257, -65536, -1 << 31, -1<<32 + 7, math.MinInt, math.MinInt + 1, math.MinInt + 200,
		256, 257, 300, 511, 512, 65535, 65536, 65791, 1<<31 - 1, 1 << 32, 1<<32 + 100, 1 << 62, math.MaxInt - 1, math.MaxInt,
	}
}

// wrong answers pixels that are not right: a number beyond in each of the four
// places, and several at a time.
func wrong() []api.Pixel {
	var out []api.Pixel
	for _, p := range []api.Pixel{px(0, 0, 0, 0), px(10, 20, 30, 40), px(255, 255, 255, 255)} {
		for _, n := range beyond() {
			for k := range places {
				out = append(out, put(p, k, n))
			}
			out = append(out, px(n, n, n, n), px(n, p.G, p.B, n), px(p.R, n, -n, p.A))
		}
	}
	return append(out, px(-1, 256, -1, 256), px(-1, 1, 0, 0), px(256, 0, 0, 256), px(300, 0, 0, 400))
}
