package codes_test

import (
	"math"
	"slices"
	"strings"
	"testing"

	"versal/api"
	"versal/codes"
	"versal/sample"
)

// holdOf holds each symbol's code against its text, and that beyond them there
// are none.
func holdOf(t *testing.T, c *codes.Code, words []string) {
	t.Helper()
	for symbol, w := range words {
		if code, length := c.Of(symbol); code != highFirst(w) || length != len(w) {
			t.Errorf("7.2: Of(%d): %b, %d, not %q", symbol, code, length, w)
		}
	}
	n := len(words)
	for _, symbol := range []int{-1, -2, -n, -n - 1, math.MinInt, n, n + 1, n + 15, 2*n + 1, 320, 321, 1 << 20, math.MaxInt} {
		if symbol >= 0 && symbol < n {
			continue
		}
		if code, length := c.Of(symbol); code != 0 || length != 0 {
			t.Errorf("7.2: Of(%d) of %d: %b, %d", symbol, n, code, length)
		}
	}
}

// holdText lays symbols down by what Of tells of them and reads them again,
// behind lead bits that are taken ahead of them.
func holdText(t *testing.T, c *codes.Code, text []int, lead int) {
	t.Helper()
	var s strings.Builder
	s.WriteString(strings.Repeat("1", lead))
	for _, symbol := range text {
		s.WriteString(spelling(c.Of(symbol)))
	}
	all := s.String()
	r := codes.NewBits(laid(all))
	r.Take(lead)
	at := lead
	for k, want := range text {
		got, ok := c.Read(r)
		_, length := c.Of(want)
		at += length
		if got != want || !ok || r.Used() != (at+7)/8 {
			t.Fatalf("7.2: Read %d: %d, %t, used %d, not %d, %d", k, got, ok, r.Used(), want, (at+7)/8)
		}
	}
	// Just the codes were taken: what is left is the last byte's rest.
	rest := -at & 7
	if n, ok := r.Take(rest); n != 0 || !ok {
		t.Errorf("7.2: %d bits are left: %d, %t", rest, n, ok)
	}
	holdTake(t, r, 1, 0, false, (at+7)/8)
}

// holdAll holds all of a code, of lengths that may be.
func holdAll(t *testing.T, lengths []int, seed int) {
	t.Helper()
	c := made(t, lengths)
	words := texts(lengths)
	holdOf(t, c, words)
	var symbols []int
	for symbol, w := range words {
		if w != "" {
			symbols = append(symbols, symbol)
			holdText(t, c, []int{symbol}, seed%8)
			holdAmid(t, c, w, seed%8)
		}
	}
	if len(symbols) == 0 {
		return
	}
	holdText(t, c, symbols, 0)
	pick := sample.Source(seed)
	text := make([]int, 200)
	for k := range text {
		text[k] = symbols[pick(len(symbols))]
	}
	holdText(t, c, text, pick(8))
}

// holdAmid reads where the bits end amid a code: each piece of w that isn't
// all of it, laid at the very end of the bytes.
func holdAmid(t *testing.T, c *codes.Code, w string, seed int) {
	t.Helper()
	for n := range len(w) {
		lead := 8*((n+7)/8) - n + 8*(seed%2)
		r := codes.NewBits(laid(strings.Repeat("0", lead) + w[:n]))
		r.Take(lead)
		holdRead(t, c, r, 0, false)
	}
}

// 7.2: the chapter's example, and RFC 1951's own.
func TestKnownCodes(t *testing.T) {
	for _, x := range []struct {
		lengths []int
		words   []string
	}{
		{[]int{2, 1, 3, 3}, []string{"10", "0", "110", "111"}},
		{[]int{3, 3, 3, 3, 3, 2, 4, 4}, []string{"010", "011", "100", "101", "110", "00", "1110", "1111"}},
		{[]int{1, 1}, []string{"0", "1"}},
		{[]int{1}, []string{"0"}},
		{[]int{0, 1, 0}, []string{"", "0", ""}},
		{[]int{0, 0}, []string{"", ""}},
		{[]int{2, 2, 2, 2}, []string{"00", "01", "10", "11"}},
		{[]int{3, 3, 2, 1}, []string{"110", "111", "10", "0"}},
		{[]int{1, 0, 2, 0, 2}, []string{"0", "", "10", "", "11"}},
	} {
		if want := texts(x.lengths); !slices.Equal(want, x.words) {
			t.Errorf("the reference of %v: %q", x.lengths, want)
		}
		holdOf(t, made(t, x.lengths), x.words)
		holdAll(t, x.lengths, 3)
	}
}

// 7.2: bits as they come, of the chapter's example: 10 0 110 111 0 0 10.
func TestReadAsTheyCome(t *testing.T) {
	c := made(t, []int{2, 1, 3, 3})
	r := codes.NewBits([]byte{0b11011001, 0b00100_1})
	for _, want := range []int{0, 1, 2, 3, 1, 1, 0, 1} {
		holdRead(t, c, r, want, true)
	}
	holdUsed(t, r, 2)
}

// 7.2: the fixed code of 288 symbols, by RFC 1951's table of it, and the 32
// codes of five bits.
func TestFixedCodes(t *testing.T) {
	c := made(t, fixed())
	for _, x := range []struct{ symbol, code, length int }{
		{0, 0b00110000, 8}, {1, 0b00110001, 8}, {143, 0b10111111, 8},
		{144, 0b110010000, 9}, {145, 0b110010001, 9}, {255, 0b111111111, 9},
		{256, 0, 7}, {257, 1, 7}, {279, 0b0010111, 7},
		{280, 0b11000000, 8}, {287, 0b11000111, 8}, {288, 0, 0}, {-1, 0, 0},
	} {
		if code, length := c.Of(x.symbol); code != x.code || length != x.length {
			t.Errorf("7.2: Of(%d): %b, %d", x.symbol, code, length)
		}
	}
	holdAll(t, fixed(), 5)
	five := slices.Repeat([]int{5}, 32)
	c = made(t, five)
	for symbol := range five {
		if code, length := c.Of(symbol); code != symbol || length != 5 {
			t.Errorf("7.2: Of(%d): %b, %d", symbol, code, length)
		}
	}
	holdAll(t, five, 6)
}

// 7.2: each length alone fills a code, as far as there are symbols for it, and
// codes as long as may be, the lengths rising and falling and among zeros.
func TestEachLength(t *testing.T) {
	for n := 1; n <= 8; n++ {
		holdAll(t, slices.Repeat([]int{n}, 1<<n), n)
	}
	falling := rising()
	slices.Reverse(falling)
	zeros := slices.Repeat([]int{0}, 304)
	for k, lengths := range [][]int{rising(), falling, slices.Concat(zeros, rising()), slices.Concat(falling, zeros)} {
		holdAll(t, lengths, k)
	}
	for n := 1; n <= 15; n++ {
		lengths := append(rising()[:n], n)
		holdAll(t, lengths, n)
		c := made(t, lengths)
		if code, length := c.Of(n); code != 1<<n-1 || length != n {
			t.Errorf("7.2: the last of %d bits: %b, %d", n, code, length)
		}
	}
}

// 7.2: whole codes of all sizes, with symbols among them that have none.
func TestManyCodes(t *testing.T) {
	for seed := range 400 {
		pick := sample.Source(seed)
		count := 2 + pick(60)
		if seed%10 == 0 {
			count = 2 + pick(319)
		}
		lengths := split(count, pick)
		lengths = sparse(lengths, min(pick(40), 320-len(lengths)), pick)
		holdAll(t, lengths, seed)
	}
	pick := sample.Source(1000)
	holdAll(t, split(320, pick), 1)
}

// 7.2: all bits that may come, of one byte and of two, are read as the codes'
// texts say, to their end.
func TestAllBits(t *testing.T) {
	for _, lengths := range [][]int{{2, 1, 3, 3}, {3, 3, 3, 3, 3, 2, 4, 4}, {1}, {0, 0, 1}, nil, rising()} {
		c := made(t, lengths)
		words := texts(lengths)
		for n := range 1 << 16 {
			b := []byte{byte(n), byte(n >> 8)}
			r := codes.NewBits(b)
			for all := spelt(b); ; {
				want, length, ok := wantRead(words, all)
				got, can := c.Read(r)
				if got != want || can != ok {
					t.Fatalf("7.2: %v: Read of %s: %d, %t", lengths, all, got, can)
				}
				if !ok {
					break
				}
				all = all[length:]
			}
		}
	}
}

// 7.2: one alone, of length 1: its code is 0; a 1 is none.
func TestOneAlone(t *testing.T) {
	for size := 1; size <= 320; size += 29 {
		for _, symbol := range []int{0, size / 2, size - 1} {
			lengths := make([]int, size)
			lengths[symbol] = 1
			c := made(t, lengths)
			holdAll(t, lengths, size)
			r := codes.NewBits([]byte{0b100})
			holdRead(t, c, r, symbol, true)
			holdRead(t, c, r, symbol, true)
			holdRead(t, c, r, 0, false)
			for _, b := range [][]byte{{1}, {255, 255, 255}, {1, 0, 0, 0}} {
				holdRead(t, c, codes.NewBits(b), 0, false)
			}
			holdRead(t, c, codes.NewBits(nil), 0, false)
			for n := 2; n <= 15; n++ {
				lengths[symbol] = n
				holdRefused(t, lengths)
			}
		}
	}
}

// 7.2: a code without symbols: of nil, of an empty list, of zeros alone.
func TestNoCodes(t *testing.T) {
	for _, lengths := range [][]int{nil, {}, make([]int, 0, 5), {0}, {0, 0}, make([]int, 320)} {
		c := made(t, lengths)
		holdOf(t, c, make([]string, len(lengths)))
		for _, b := range [][]byte{nil, {}, {0}, {255}, {1, 2, 3}, make([]byte, 9)} {
			r := codes.NewBits(b)
			for range 20 {
				holdRead(t, c, r, 0, false)
			}
		}
	}
}

// holdRefused holds that lengths are no code's.
func holdRefused(t *testing.T, lengths []int) {
	t.Helper()
	if c, e := codes.New(lengths); c != nil || e != api.ErrForm {
		t.Errorf("7.2: New of %v: %v, %d", lengths, c, e)
	}
}

// 7.2: a length that is not 0 to 15, wherever it stands and whatever else.
func TestWrongLengths(t *testing.T) {
	for _, n := range []int{-1, -2, -15, -16, 16, 17, 31, 32, 33, 256, 257, 1 << 16, 1<<32 + 1, math.MinInt, math.MaxInt, math.MinInt + 1} {
		holdRefused(t, []int{n})
		for _, lengths := range [][]int{{1}, {1, 1}, {2, 1, 3, 3}, rising(), fixed(), {0, 0, 0}} {
			for _, at := range []int{0, len(lengths) / 2, len(lengths)} {
				holdRefused(t, slices.Insert(slices.Clone(lengths), at, n))
			}
			for k := range lengths {
				wrong := slices.Clone(lengths)
				wrong[k] = n
				holdRefused(t, wrong)
			}
		}
	}
	// 15 itself may be, and 16 not, where both would fill up what is left.
	made(t, rising())
	holdRefused(t, append(rising()[:15], 16, 16))
}

// 7.2: 320 symbols may be, and 321 not, with codes and without.
func TestHowMany(t *testing.T) {
	pick := sample.Source(77)
	for _, lengths := range [][]int{nil, {1}, {1, 1}, {2, 1, 3, 3}, rising(), fixed(), split(320, pick)} {
		whole := slices.Concat(lengths, make([]int, 320-len(lengths)))
		made(t, whole)
		holdAll(t, whole, 9)
		for _, more := range []int{1, 2, 31, 1000} {
			holdRefused(t, slices.Concat(whole, make([]int, more)))
			holdRefused(t, slices.Concat(make([]int, more), whole))
		}
	}
	holdRefused(t, split(321, pick))
	holdRefused(t, slices.Repeat([]int{9}, 512))
}

// 7.2: of a whole code, one more is too many, one less is too few, and so is
// one that is longer; one that is shorter is too many again.
func TestTooManyTooFew(t *testing.T) {
	pick := sample.Source(5)
	for _, lengths := range [][]int{{1, 1}, {2, 1, 3, 3}, {3, 3, 3, 3, 3, 2, 4, 4}, rising(), fixed(), slices.Repeat([]int{5}, 32), split(100, pick), split(319, pick)} {
		made(t, lengths)
		for n := 1; n <= 15; n++ {
			holdRefused(t, append(slices.Clone(lengths), n))
			holdRefused(t, slices.Insert(slices.Clone(lengths), 0, n))
		}
		for k, n := range lengths {
			less := slices.Clone(lengths)
			less[k] = 0
			if len(lengths) > 2 {
				holdRefused(t, less)
				holdRefused(t, slices.Delete(slices.Clone(lengths), k, k+1))
			}
			if n < 15 {
				less[k] = n + 1
				holdRefused(t, less)
			}
			if n > 1 {
				less[k] = n - 1
				holdRefused(t, less)
			}
		}
	}
	for _, lengths := range [][]int{{1, 1, 1}, {1, 2}, {2, 2}, {1, 2, 2, 2}, {2, 2, 2}, {2, 2, 2, 2, 2}, {1, 1, 15}, {15, 15}, rising()[:15], slices.Repeat([]int{1}, 320), slices.Repeat([]int{15}, 320)} {
		holdRefused(t, lengths)
	}
}

// 7.2: each list of up to five lengths from -1 to 6, and of up to three of all.
func TestEachListOfLengths(t *testing.T) {
	hold := func(lengths []int) {
		want := wantNew(lengths)
		c, e := codes.New(lengths)
		if want != (e == api.OK) || want != (c != nil) || !want && e != api.ErrForm {
			t.Fatalf("7.2: New of %v: %d", lengths, e)
		}
		if want {
			holdOf(t, c, texts(lengths))
		}
	}
	each(nil, 5, -1, 6, hold)
	each(nil, 3, -2, 18, hold)
}

// each calls f with each list of up to most numbers from low to high that
// begins with ahead.
func each(ahead []int, most, low, high int, f func([]int)) {
	f(ahead)
	if len(ahead) == most {
		return
	}
	for n := low; n <= high; n++ {
		each(append(slices.Clone(ahead), n), most, low, high, f)
	}
}

// 7.2: lists of lengths that are near a whole code's.
func TestNearCodes(t *testing.T) {
	may := 0
	for seed := range 4000 {
		pick := sample.Source(seed)
		lengths := split(2+pick(20), pick)
		for range pick(3) {
			lengths[pick(len(lengths))] += pick(3) - 1
		}
		c, e := codes.New(lengths)
		if want := wantNew(lengths); want != (e == api.OK) || want != (c != nil) || !want && e != api.ErrForm {
			t.Fatalf("7.2: New of %v: %d", lengths, e)
		}
		if e == api.OK {
			may++
		}
	}
	if may < 1000 || may > 3500 {
		t.Errorf("%d of them are codes", may)
	}
}

// 7.1, 7.2: Take, Align and Read on the same bits, one behind another.
func TestReadAmongTakes(t *testing.T) {
	lengths := []int{3, 3, 3, 3, 3, 2, 4, 4}
	c := made(t, lengths)
	words := texts(lengths)
	for seed := range 300 {
		pick := sample.Source(seed)
		b := sample.Bytes(60, seed)
		all, at := spelt(b), 0
		r := codes.NewBits(b)
		for at+24 <= len(all) {
			switch pick(4) {
			case 0:
				n := pick(20)
				want := lowFirst(all[at : at+n])
				at += n
				holdTake(t, r, n, want, true, (at+7)/8)
			case 1:
				r.Align()
				at = (at + 7) / 8 * 8
			default:
				symbol, length, _ := wantRead(words, all[at:])
				at += length
				holdRead(t, c, r, symbol, true)
				holdUsed(t, r, (at+7)/8)
			}
		}
	}
}

// R7: codes and bits know nothing of one another: two codes by turns on the
// same bits, and one code on two bits.
func TestCodesApart(t *testing.T) {
	one, other := made(t, []int{1, 1}), made(t, []int{1, 2, 2})
	r := codes.NewBits([]byte{0b11_1_01_0_11, 0b1})
	s := codes.NewBits([]byte{0b1010})
	for _, x := range []struct {
		c    *codes.Code
		r    *codes.Bits
		want int
	}{{one, r, 1}, {one, s, 0}, {other, r, 1}, {one, s, 1}, {other, s, 0}, {one, r, 1}, {other, s, 1}, {other, r, 0}, {one, r, 1}, {other, r, 2}} {
		holdRead(t, x.c, x.r, x.want, true)
	}
	holdUsed(t, r, 1)
}

// R2: the lengths are as they were behind each call, their spare room and what
// lies ahead of them included, be they a code's or not.
func TestLengthsUnchanged(t *testing.T) {
	for _, lengths := range [][]int{{2, 1, 3, 3}, rising(), fixed(), {1}, nil, {1, 1, 1}, {2, 2}, {16}, {-1}, make([]int, 321)} {
		room := slices.Concat([]int{7, 8, 9}, lengths, []int{5, 4, 3})
		was := slices.Clone(room)
		c, _ := codes.New(room[3 : 3+len(lengths)])
		if !slices.Equal(room, was) {
			t.Fatalf("R2: New changed %v", lengths)
		}
		r := codes.NewBits(sample.Bytes(40, 1))
		for k := range len(lengths) + 1 {
			c.Of(k)
			c.Read(r)
			if !slices.Equal(room, was) {
				t.Fatalf("R2: Of or Read changed %v", lengths)
			}
		}
	}
}

// R2: the lengths may be changed afterwards without the code's noticing, and
// what lies behind them is none of its business.
func TestLengthsNotKept(t *testing.T) {
	room := slices.Concat(rising(), []int{1, 1, 1})
	lengths := room[:16]
	words := texts(lengths)
	c := made(t, lengths)
	text := []int{15, 0, 14, 1, 13, 2, 0, 0, 15}
	for n := range 20 {
		for k := range room {
			room[k] = n - 2
		}
		holdOf(t, c, words)
		holdText(t, c, text, n%8)
	}
}

// R4: what a code answers hangs on its lengths alone: made again it is the
// same, and reading leaves it as it is.
func TestSameAgain(t *testing.T) {
	lengths := split(50, sample.Source(3))
	words := texts(lengths)
	c := made(t, lengths)
	for k := range 20 {
		b := sample.Bytes(100, k)
		one, other := codes.NewBits(b), codes.NewBits(b)
		again := made(t, slices.Clone(lengths))
		for range 60 {
			x, okX := c.Read(one)
			y, okY := again.Read(other)
			if x != y || okX != okY || one.Used() != other.Used() {
				t.Fatalf("R4: %d and %d", x, y)
			}
		}
		holdOf(t, c, words)
	}
}

// R1: of none there is no answer, and no panic.
func TestNilCode(t *testing.T) {
	var c *codes.Code
	r := codes.NewBits([]byte{1, 2})
	holdRead(t, c, r, 0, false)
	holdRead(t, c, nil, 0, false)
	holdTake(t, r, 16, 0x0201, true, 2)
	holdOf(t, c, nil)
}
