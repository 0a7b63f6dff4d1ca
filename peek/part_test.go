package peek_test

import (
	"bytes"
	"math"
	"testing"

	"versal/peek"
)

// 2.1: n bytes from at on.
func TestPart(t *testing.T) {
	for _, c := range []struct {
		b     string
		at, n int
		want  string
		ok    bool
	}{
		{"abcde", 0, 5, "abcde", true},
		{"abcde", 0, 1, "a", true},
		{"abcde", 1, 3, "bcd", true},
		{"abcde", 4, 1, "e", true},
		{"abcde", 0, 0, "", true},
		{"abcde", 3, 0, "", true},
		{"abcde", 5, 0, "", true},
		{"", 0, 0, "", true},
		{"abcde", 6, 0, "", false},
		{"abcde", 5, 1, "", false},
		{"abcde", 4, 2, "", false},
		{"abcde", 0, 6, "", false},
		{"abcde", -1, 0, "", false},
		{"abcde", -1, 1, "", false},
		{"abcde", -1, 2, "", false},
		{"abcde", 0, -1, "", false},
		{"abcde", 5, -1, "", false},
		{"abcde", 6, -1, "", false},
		{"", 0, 1, "", false},
		{"", 1, 0, "", false},
		{"", 0, -1, "", false},
	} {
		got, ok := peek.Part([]byte(c.b), c.at, c.n)
		if string(got) != c.want || ok != c.ok {
			t.Errorf("Part(%q, %d, %d): %q, %t", c.b, c.at, c.n, got, ok)
		}
	}
}

// 2.1: every place and count about every length.
func TestPartAll(t *testing.T) {
	whole := []byte{10, 11, 12, 13, 14, 15, 16}
	for length := range len(whole) + 1 {
		b := whole[:length:length]
		for at := -3; at <= length+3; at++ {
			for n := -3; n <= length+3; n++ {
				there := at >= 0 && n >= 0 && at+n <= length
				var want []byte
				if there {
					want = b[at : at+n]
				}
				got, ok := peek.Part(b, at, n)
				if !bytes.Equal(got, want) || ok != there {
					t.Errorf("Part of %d bytes at %d, %d of them: % x, %t", length, at, n, got, ok)
				}
			}
		}
	}
}

// 2.1, R1, R5: a place or a count that no bytes can have, alone or in a sum
// that would not fit an int, is none.
func TestPartOfNoPlace(t *testing.T) {
	for _, b := range [][]byte{nil, {}, []byte("abcdefgh")} {
		for _, k := range far() {
			for near := -1; near <= len(b)+1; near++ {
				if got, ok := peek.Part(b, k, near); len(got) != 0 || ok {
					t.Errorf("Part of %d bytes at %d, %d of them: %q, %t", len(b), k, near, got, ok)
				}
				if got, ok := peek.Part(b, near, k); len(got) != 0 || ok {
					t.Errorf("Part of %d bytes at %d, %d of them: %q, %t", len(b), near, k, got, ok)
				}
			}
			for _, n := range far() {
				if got, ok := peek.Part(b, k, n); len(got) != 0 || ok {
					t.Errorf("Part of %d bytes at %d, %d of them: %q, %t", len(b), k, n, got, ok)
				}
			}
		}
	}
}

// 2.1: sums that wrap round to a place inside are still none.
func TestPartOfWrappedSums(t *testing.T) {
	b := []byte("abcdefgh")
	for _, c := range [][2]int{
		{math.MaxInt, math.MaxInt}, {math.MinInt, math.MinInt}, {math.MaxInt, math.MinInt}, {math.MinInt, math.MaxInt},
		{math.MaxInt, 1}, {1, math.MaxInt}, {math.MaxInt - 3, 8}, {8, math.MaxInt - 3},
		{8, math.MaxInt}, {2, math.MinInt}, {math.MinInt, 2}, {-4, 8}, {8, -4},
	} {
		if got, ok := peek.Part(b, c[0], c[1]); len(got) != 0 || ok {
			t.Errorf("Part at %d, %d of them: %q, %t", c[0], c[1], got, ok)
		}
	}
}

// 2.1: all from at on; at 0 it is the whole, at the length it is nothing, and there.
func TestFrom(t *testing.T) {
	for _, c := range []struct {
		b    string
		at   int
		want string
		ok   bool
	}{
		{"abcde", 0, "abcde", true},
		{"abcde", 1, "bcde", true},
		{"abcde", 4, "e", true},
		{"abcde", 5, "", true},
		{"", 0, "", true},
		{"abcde", 6, "", false},
		{"abcde", -1, "", false},
		{"abcde", -5, "", false},
		{"", 1, "", false},
		{"", -1, "", false},
	} {
		got, ok := peek.From([]byte(c.b), c.at)
		if string(got) != c.want || ok != c.ok {
			t.Errorf("From(%q, %d): %q, %t", c.b, c.at, got, ok)
		}
	}
}

// 2.1, R1, R5: From of a place that is none.
func TestFromNoPlace(t *testing.T) {
	for _, b := range [][]byte{nil, {}, []byte("abcdefgh")} {
		for _, at := range far() {
			if got, ok := peek.From(b, at); len(got) != 0 || ok {
				t.Errorf("From of %d bytes at %d: %q, %t", len(b), at, got, ok)
			}
		}
	}
}

// R2: nil and an empty list are the same, with no bytes of them at 0.
func TestPartAndFromOfNil(t *testing.T) {
	for _, b := range [][]byte{nil, {}} {
		if got, ok := peek.Part(b, 0, 0); len(got) != 0 || !ok {
			t.Errorf("Part: %q, %t", got, ok)
		}
		if got, ok := peek.From(b, 0); len(got) != 0 || !ok {
			t.Errorf("From: %q, %t", got, ok)
		}
	}
}

// 2.1: bytes in the spare room are not there.
func TestPartAndFromNotOfSpareRoom(t *testing.T) {
	b := []byte("abcdefgh")[:3]
	for _, c := range [][2]int{{0, 4}, {2, 2}, {3, 1}, {4, 0}, {4, 1}, {8, 0}} {
		if got, ok := peek.Part(b, c[0], c[1]); len(got) != 0 || ok {
			t.Errorf("Part at %d, %d of them: %q, %t", c[0], c[1], got, ok)
		}
	}
	if got, ok := peek.From(b, 1); string(got) != "bc" || !ok {
		t.Errorf("From at 1: %q, %t", got, ok)
	}
	if got, ok := peek.From(b, 4); len(got) != 0 || ok {
		t.Errorf("From at 4: %q, %t", got, ok)
	}
}

// pieces are answers of Part and From about one list, of some and of no bytes.
func pieces(b []byte) map[string][]byte {
	answers := map[string][]byte{}
	for at := range len(b) + 1 {
		answers["From at "+string(rune('0'+at))], _ = peek.From(b, at)
		for n := range len(b) - at + 1 {
			answers["Part at "+string(rune('0'+at))+" of "+string(rune('0'+n))], _ = peek.Part(b, at, n)
		}
	}
	return answers
}

// R2: a change of an answer, its spare room included, is not seen in what was handed in.
func TestAnswersAreNewMemory(t *testing.T) {
	whole := []byte("abcdefgh")
	for name, got := range pieces(whole[:5]) {
		room := got[:cap(got)]
		for k := range room {
			room[k] = '?'
		}
		_ = append(got, "zzz"...)
		if string(whole) != "abcdefgh" {
			t.Fatalf("%s: its change is seen: %q", name, whole)
		}
	}
}

// R2: a change of what was handed in is not seen in an answer.
func TestArgumentsAreNotKept(t *testing.T) {
	whole := []byte("abcdefgh")
	part, _ := peek.Part(whole, 1, 3)
	all, _ := peek.Part(whole, 0, 8)
	from, _ := peek.From(whole, 2)
	same, _ := peek.From(whole, 0)
	for k := range whole {
		whole[k] = '?'
	}
	if string(part) != "bcd" || string(all) != "abcdefgh" || string(from) != "cdefgh" || string(same) != "abcdefgh" {
		t.Errorf("%q, %q, %q, %q", part, all, from, same)
	}
}

// R2: two answers share no memory with one another.
func TestAnswersAreApart(t *testing.T) {
	b := []byte("abcdefgh")
	one, _ := peek.Part(b, 0, 4)
	two, _ := peek.Part(b, 0, 4)
	three, _ := peek.From(b, 0)
	four, _ := peek.From(b, 0)
	one[1], three[1] = '?', '!'
	if string(two) != "abcd" || string(four) != "abcdefgh" {
		t.Errorf("%q, %q", two, four)
	}
}

// R2: what is handed in stays as it is, its spare room included.
func TestPartAndFromChangeNothing(t *testing.T) {
	whole := []byte("abcdefgh")
	for at := -1; at <= 7; at++ {
		peek.From(whole[:5], at)
		for n := -1; n <= 7; n++ {
			peek.Part(whole[:5], at, n)
		}
	}
	if string(whole) != "abcdefgh" {
		t.Errorf("changed: %q", whole)
	}
}
