package flate_test

import (
	"bytes"
	"strings"
	"sync"
	"testing"

	"versal/api"
	"versal/flate"
	"versal/sample"
)

// refusal is what the reference stops with.
type refusal api.Errno

// reference inflates by the promise's words, on a text of the bits.
type reference struct {
	text string
	at   int
	out  []byte
	most int
}

// want answers what Inflate has to.
func want(b []byte, most int) (out []byte, used int, e api.Errno) {
	var s strings.Builder
	for _, x := range b {
		for k := range 8 {
			s.WriteByte('0' + x>>k&1)
		}
	}
	r := &reference{text: s.String(), most: max(most, 0)}
	defer func() {
		if stop := recover(); stop != nil {
			out, used, e = nil, 0, api.Errno(stop.(refusal))
		}
	}()
	for r.number(1) == 0 {
		r.block()
	}
	r.block()
	return r.out, (r.at + 7) / 8, api.OK
}

// must stops unless it holds.
func must(holds bool, e api.Errno) {
	if !holds {
		panic(refusal(e))
	}
}

// bits answers the next n as a text.
func (r *reference) bits(n int) string {
	must(n <= len(r.text)-r.at, api.ErrShort)
	r.at += n
	return r.text[r.at-n : r.at]
}

// number answers the next n bits as a number, the first its lowest.
func (r *reference) number(n int) int {
	sum := 0
	for k, x := range r.bits(n) {
		sum += int(x-'0') << k
	}
	return sum
}

// dictionary is a code: each symbol by its word, and each beginning of a word.
type dictionary struct {
	symbols    map[string]int
	beginnings map[string]bool
}

// dictionaryOf answers the code of lengths, if it may be.
func dictionaryOf(lengths []int) dictionary {
	room, all := 0, 0
	for _, n := range lengths {
		if n > 0 {
			room += 1 << (15 - n)
			all++
		}
	}
	must(room == 1<<15 || all == 0 || all == 1 && room == 1<<14, api.ErrForm)
	d := dictionary{make(map[string]int), make(map[string]bool)}
	for symbol, w := range words(lengths) {
		if w != "" {
			d.symbols[w] = symbol
			for k := range w {
				d.beginnings[w[:k]] = true
			}
		}
	}
	return d
}

// symbol answers the one whose word comes: bit by bit, as long as there is a
// word that begins so.
func (r *reference) symbol(d dictionary) int {
	w := ""
	for {
		if symbol, ok := d.symbols[w]; ok {
			return symbol
		}
		must(d.beginnings[w], api.ErrForm)
		w += r.bits(1)
	}
}

// say adds a byte.
func (r *reference) say(x byte) {
	must(len(r.out) < r.most, api.ErrBig)
	r.out = append(r.out, x)
}

// block reads a block whose first bit is taken.
func (r *reference) block() {
	switch r.number(2) {
	case 0:
		r.bits(-r.at & 7)
		size, complement := r.number(16), r.number(16)
		must(size+complement == 65535, api.ErrForm)
		for range size {
			r.say(byte(r.number(8)))
		}
	case 1:
		r.symbols(fixedOnce())
	case 2:
		r.symbols(r.dictionaries())
	default:
		must(false, api.ErrForm)
	}
}

// fixedOnce keeps them for all streams.
var fixedOnce = sync.OnceValues(fixedDictionaries)

// fixedDictionaries answers the codes of RFC 1951's table.
func fixedDictionaries() (near, far dictionary) {
	lengths := make([]int, 288)
	for k := range lengths {
		lengths[k] = len(fixedWord(k))
	}
	near = dictionaryOf(lengths)
	lengths = make([]int, 32)
	for k := range lengths {
		lengths[k] = 5
	}
	return near, dictionaryOf(lengths)
}

// dictionaries reads the codes of a block.
func (r *reference) dictionaries() (near, far dictionary) {
	literals, distances, short := r.number(5)+257, r.number(5)+1, r.number(4)+4
	must(literals <= 286 && distances <= 30, api.ErrForm)
	of := make([]int, 19)
	for _, k := range shortOrder[:short] {
		of[k] = r.number(3)
	}
	d := dictionaryOf(of)
	var lengths []int
	for len(lengths) < literals+distances {
		n, times := r.symbol(d), 1
		switch n {
		case 16:
			must(len(lengths) > 0, api.ErrForm)
			n, times = lengths[len(lengths)-1], 3+r.number(2)
		case 17:
			n, times = 0, 3+r.number(3)
		case 18:
			n, times = 0, 11+r.number(7)
		}
		must(len(lengths)+times <= literals+distances, api.ErrForm)
		for range times {
			lengths = append(lengths, n)
		}
	}
	must(lengths[256] > 0, api.ErrForm)
	return dictionaryOf(lengths[:literals]), dictionaryOf(lengths[literals:])
}

// symbols reads a block's bytes and copies.
func (r *reference) symbols(near, far dictionary) {
	for {
		symbol := r.symbol(near)
		if symbol == 256 {
			return
		}
		if symbol < 256 {
			r.say(byte(symbol))
			continue
		}
		must(symbol <= 285, api.ErrForm)
		row := lengthRows[symbol-257]
		length := row[0] + r.number(row[1])
		symbol = r.symbol(far)
		must(symbol <= 29, api.ErrForm)
		row = distanceRows[symbol]
		distance := row[0] + r.number(row[1])
		must(distance <= len(r.out), api.ErrForm)
		for range length {
			r.say(r.out[len(r.out)-distance])
		}
	}
}

// holdWant inflates and holds against the reference, and what comes of it
// against the library.
func holdWant(t *testing.T, b []byte, most int) api.Errno {
	t.Helper()
	out, used, e := want(b, most)
	got, n, code := flate.Inflate(b, most)
	if !bytes.Equal(got, out) || n != used || code != e {
		t.Errorf("8.1: % x, most %d: %d bytes, %d used, error %d, not %d, %d, %d", b[:min(len(b), 60)], most, len(got), n, code, len(out), used, e)
	}
	text, taken, err := libraryUsed(b)
	if code == api.OK && (err != nil || !bytes.Equal(text, got) || taken != n) {
		t.Errorf("8.1: % x: the library: %d bytes, %d used, %v, not %d, %d", b[:min(len(b), 60)], len(text), taken, err, len(got), n)
	}
	if (code == api.ErrForm || code == api.ErrShort) && err == nil {
		t.Errorf("8.1: % x: error %d, and the library reads %d bytes", b[:min(len(b), 60)], code, len(text))
	}
	return code
}

// author writes streams of blocks of all kinds, and keeps what they say.
type author struct {
	writer
	pick func(n int) int
	said []byte
}

// wholeCode answers lengths of a whole code of some of count symbols, of at
// most most bits, each of those that are needed among them.
func (a *author) wholeCode(count, most int, needed ...int) []int {
	symbols := append([]int(nil), needed...)
	for k := range count {
		if a.pick(4) == 0 {
			symbols = append(symbols, k)
		}
	}
	have := make(map[int]bool)
	var unlike []int
	for _, k := range symbols {
		if !have[k] {
			have[k] = true
			unlike = append(unlike, k)
		}
	}
	lengths := make([]int, count)
	if len(unlike) == 1 {
		lengths[unlike[0]] = 1
		return lengths
	}
	own := []int{1, 1}
	for len(own) < len(unlike) {
		if k := a.pick(len(own)); own[k] < most {
			own[k]++
			own = append(own, own[k])
		}
	}
	for k, symbol := range unlike {
		lengths[symbol] = own[k]
	}
	return lengths
}

// tell adds lengths by a code of its own, with repeats where it likes.
func (a *author) tell(literals, distances []int) {
	all := append(append([]int(nil), literals...), distances...)
	type step struct{ symbol, more, size int }
	var steps []step
	needed := []int{}
	for k := 0; k < len(all); {
		run := 1
		for k+run < len(all) && all[k+run] == all[k] {
			run++
		}
		s, times := step{symbol: all[k]}, 1
		switch {
		case a.pick(5) == 0:
		case all[k] == 0 && run >= 11:
			times = 11 + a.pick(min(run, 138)-10)
			s = step{18, times - 11, 7}
		case all[k] == 0 && run >= 3:
			times = 3 + a.pick(min(run, 10)-2)
			s = step{17, times - 3, 3}
		case k > 0 && all[k-1] == all[k] && run >= 3:
			times = 3 + a.pick(min(run, 6)-2)
			s = step{16, times - 3, 2}
		}
		steps = append(steps, s)
		needed = append(needed, s.symbol)
		k += times
	}
	short := a.wholeCode(19, 7, needed...)
	count := 19
	for count > 4 && short[shortOrder[count-1]] == 0 && a.pick(9) > 0 {
		count--
	}
	a.counts(len(literals), len(distances), count)
	for _, k := range shortOrder[:count] {
		a.number(short[k], 3)
	}
	own := words(short)
	for _, s := range steps {
		a.word(own[s.symbol]).number(s.more, s.size)
	}
}

// coded adds bytes and copies by two codes, and the end.
func (a *author) coded(near, far []string) {
	for range a.pick(40) {
		k := a.pick(min(len(near), 286))
		if near[k] == "" || k == 256 {
			continue
		}
		if k < 256 {
			a.word(near[k])
			a.said = append(a.said, byte(k))
			continue
		}
		d := a.pick(min(len(far), 30))
		row := distanceRows[d]
		more := a.pick(1 << row[1])
		if far[d] == "" || row[0]+more > len(a.said) {
			continue
		}
		long := lengthRows[k-257]
		extra := a.pick(1 << long[1])
		a.word(near[k]).number(extra, long[1]).word(far[d]).number(more, row[1])
		for range long[0] + extra {
			a.said = append(a.said, a.said[len(a.said)-row[0]-more])
		}
	}
	a.word(near[256])
}

// block adds one.
func (a *author) block(last int) {
	switch kind := a.pick(4); kind {
	case 0:
		b := sample.Bytes(a.pick(30), a.pick(1000))
		a.stored(last, b)
		a.said = append(a.said, b...)
	case 1:
		a.head(last, 1)
		near, far := make([]string, 288), make([]string, 32)
		for k := range near {
			near[k] = fixedWord(k)
		}
		for k := range far {
			far[k] = spelling(k, 5)
		}
		a.coded(near, far)
	default:
		a.head(last, 2)
		near := a.wholeCode(257+a.pick(30), 15, 256)
		far := make([]int, 1+a.pick(30))
		if a.pick(4) > 0 {
			far = a.wholeCode(len(far), 15, a.pick(len(far)))
		}
		a.tell(near, far)
		a.coded(words(near), words(far))
	}
}

// written answers a stream of some blocks.
func written(seed int) ([]byte, []byte) {
	a := &author{pick: sample.Source(seed)}
	for range a.pick(4) {
		a.block(0)
	}
	a.block(1)
	return a.bytes(), a.said
}

// 8.1: streams of blocks of all kinds: what they say, and all of their bytes.
func TestWritten(t *testing.T) {
	for seed := range 600 {
		b, said := written(seed)
		hold(t, "written", b, len(said), string(said), len(b), api.OK)
		holdWant(t, b, len(said))
		if len(said) > 0 {
			holdWant(t, b, len(said)-1)
		}
	}
}

// 8.1: the same cut off at each place.
func TestWrittenCutOff(t *testing.T) {
	for seed := range 60 {
		b, said := written(seed)
		for n := range b {
			hold(t, "cut off", b[:n], len(said), "", 0, api.ErrShort)
		}
	}
}

// 8.1: the same with some bits turned, with bytes gone and with any most: the
// first error in the order of the bits.
func TestWrittenTurned(t *testing.T) {
	seen := make(map[api.Errno]int)
	for seed := range 9000 {
		pick := sample.Source(seed + 5000)
		b, said := written(seed % 900)
		for range pick(4) {
			b[pick(len(b))] ^= 1 << pick(8)
		}
		if pick(3) == 0 {
			b[pick(min(len(b), 8))] ^= 1 << pick(8)
		}
		if pick(4) == 0 {
			b = b[:pick(len(b)+1)]
		}
		most := 1 << 16
		if pick(3) == 0 {
			most = pick(len(said)+5) - 2
		}
		seen[holdWant(t, b, most)]++
	}
	for _, e := range []api.Errno{api.OK, api.ErrForm, api.ErrShort, api.ErrBig} {
		if seen[e] < 100 {
			t.Errorf("error %d: %d times", e, seen[e])
		}
	}
}

// 8.1, R1: any bytes at all.
func TestAnyBytes(t *testing.T) {
	for x := range 1 << 16 {
		b := []byte{byte(x), byte(x >> 8)}
		holdWant(t, b, 9)
		if x < 256 {
			holdWant(t, b[:1], 9)
		}
	}
	for seed := range 4000 {
		b := sample.Bytes(sample.Source(seed)(90), seed)
		if len(b) > 0 {
			b[0] = b[0]&^7 | byte(2+seed%4)
		}
		holdWant(t, b, 1<<12)
	}
}
