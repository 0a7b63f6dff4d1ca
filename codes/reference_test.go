package codes_test

import (
	"slices"
	"strings"
	"testing"

	"versal/api"
	"versal/codes"
)

// spelt answers the bits of b as a text of 0 and 1, in the order in which they
// come.
func spelt(b []byte) string {
	var s strings.Builder
	for _, x := range b {
		for range 8 {
			s.WriteByte('0' + x%2)
			x /= 2
		}
	}
	return s.String()
}

// laid is spelt's way back; what is left of the last byte is 0.
func laid(s string) []byte {
	b := make([]byte, (len(s)+7)/8)
	for k := range len(s) {
		if s[k] == '1' {
			b[k/8] += 1 << (k % 8)
		}
	}
	return b
}

// lowFirst answers the number whose lowest bit is the text's first.
func lowFirst(s string) int {
	n, weight := 0, 1
	for k := range len(s) {
		n += weight * int(s[k]-'0')
		weight *= 2
	}
	return n
}

// highFirst answers the number whose highest bit is the text's first.
func highFirst(s string) int {
	n := 0
	for k := range len(s) {
		n = 2*n + int(s[k]-'0')
	}
	return n
}

// spelling answers length bits of code, the highest first.
func spelling(code, length int) string {
	s := ""
	for range length {
		s = string(rune('0'+code%2)) + s
		code /= 2
	}
	return s
}

// texts answers the symbols' codes as texts, by the promise's words: all of
// them in the order of their lengths and then of their symbols, each the next
// one behind the code ahead of it, with zeros added if it is longer.
func texts(lengths []int) []string {
	var order []int
	for symbol, n := range lengths {
		if n > 0 {
			order = append(order, symbol)
		}
	}
	slices.SortStableFunc(order, func(a, b int) int { return lengths[a] - lengths[b] })
	words := make([]string, len(lengths))
	last := ""
	for k, symbol := range order {
		if k > 0 {
			last = next(last)
		}
		last += strings.Repeat("0", lengths[symbol]-len(last))
		words[symbol] = last
	}
	return words
}

// next counts one on: the zero that stands last becomes a one, and the ones
// behind it zeros.
func next(s string) string {
	k := strings.LastIndexByte(s, '0')
	return s[:k] + "1" + strings.Repeat("0", len(s)-k-1)
}

// wantNew tells which lengths may be, by the room that their codes take up.
func wantNew(lengths []int) bool {
	if len(lengths) > 320 {
		return false
	}
	const whole = 1 << 15
	room, all, short := 0, 0, 0
	for _, n := range lengths {
		if n < 0 || n > 15 {
			return false
		}
		if n > 0 {
			room += whole >> n
			all++
		}
		if n == 1 {
			short++
		}
	}
	return room == whole || all == 0 || all == 1 && short == 1
}

// wantRead answers the symbol whose code the text begins with.
func wantRead(words []string, s string) (symbol, length int, ok bool) {
	for k, w := range words {
		if w != "" && strings.HasPrefix(s, w) {
			return k, len(w), true
		}
	}
	return 0, 0, false
}

// made answers the code of lengths that may be.
func made(t *testing.T, lengths []int) *codes.Code {
	t.Helper()
	c, e := codes.New(lengths)
	if c == nil || e != api.OK {
		t.Fatalf("7.2: New of %v: %v, %d", lengths, c, e)
	}
	return c
}

// holdTake takes n and holds what comes and how many bytes were begun.
func holdTake(t *testing.T, r *codes.Bits, n, want int, ok bool, used int) {
	t.Helper()
	if got, can := r.Take(n); got != want || can != ok {
		t.Errorf("7.1: Take(%d): %x, %t, not %x, %t", n, got, can, want, ok)
	}
	holdUsed(t, r, used)
}

func holdUsed(t *testing.T, r *codes.Bits, used int) {
	t.Helper()
	if got := r.Used(); got != used {
		t.Errorf("7.1: Used: %d, not %d", got, used)
	}
}

// holdRead reads and holds the symbol; a false comes with a 0.
func holdRead(t *testing.T, c *codes.Code, r *codes.Bits, want int, ok bool) {
	t.Helper()
	if got, can := c.Read(r); got != want || can != ok {
		t.Errorf("7.2: Read: %d, %t, not %d, %t", got, can, want, ok)
	}
}

// split answers lengths of a whole code of count symbols (2 or more): codes
// that are parted in two, again and again, till there are enough.
func split(count int, pick func(n int) int) []int {
	lengths := []int{1, 1}
	for len(lengths) < count {
		k := pick(len(lengths))
		if lengths[k] < 15 {
			lengths[k]++
			lengths = slices.Insert(lengths, pick(len(lengths)+1), lengths[k])
		}
	}
	return lengths
}

// sparse puts up to more zeros among lengths.
func sparse(lengths []int, more int, pick func(n int) int) []int {
	lengths = slices.Clone(lengths)
	for range more {
		lengths = slices.Insert(lengths, pick(len(lengths)+1), 0)
	}
	return lengths
}

// fixed answers the lengths of RFC 1951's fixed code.
func fixed() []int {
	return slices.Concat(
		slices.Repeat([]int{8}, 144),
		slices.Repeat([]int{9}, 112),
		slices.Repeat([]int{7}, 24),
		slices.Repeat([]int{8}, 8),
	)
}

// rising answers lengths of a code that is as long as may be: 1, 2 .. 14, 15, 15.
func rising() []int {
	return []int{1, 2, 3, 4, 5, 6, 7, 8, 9, 10, 11, 12, 13, 14, 15, 15}
}
