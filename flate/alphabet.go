package flate

import (
	"versal/api"
	"versal/codes"
)

const (
	// mostLiterals and mostDistances are how many codes a block tells at most.
	mostLiterals  = 286
	mostDistances = 30
)

// order is the one in which the lengths of the lengths' own codes are told.
var order = [19]int{16, 17, 18, 0, 8, 7, 9, 6, 10, 5, 11, 4, 12, 3, 13, 2, 14, 1, 15}

// pair is the codes of a block: of bytes, its end and lengths, and of
// distances.
type pair struct {
	literals, distances alphabet
}

// alphabet is a code, and what tells bits that end from a code that is none.
type alphabet struct {
	code  *codes.Code
	count int // how many symbols have a code
	only  int // the last of them: where there is one alone, that one
}

// newAlphabet answers the alphabet of these lengths of codes.
func newAlphabet(lengths []int) (alphabet, api.Errno) {
	code, e := codes.New(lengths)
	if e != api.OK {
		return alphabet{}, e
	}
	a := alphabet{code: code}
	for symbol, n := range lengths {
		if n > 0 {
			a.count++
			a.only = symbol
		}
	}
	return a, api.OK
}

// newPair answers the pair of a block's lengths, those of distances from the
// count of literals on.
func newPair(lengths []int, literals int) (p pair, e api.Errno) {
	p.literals, e = newAlphabet(lengths[:literals])
	if e != api.OK {
		return pair{}, e
	}
	p.distances, e = newAlphabet(lengths[literals:])
	if e != api.OK {
		return pair{}, e
	}
	return p, api.OK
}

// symbol answers the one whose code comes. Two codes or more leave no bits
// without a meaning, as codes.New lets nothing else be: there Read fails
// where the bits end and nowhere else. One alone is a 0, and a 1 is none.
func (s *stream) symbol(a alphabet) (int, api.Errno) {
	if a.count == 0 {
		return 0, api.ErrForm
	}
	if a.count == 1 {
		bit, e := s.take(1)
		if e != api.OK {
			return 0, e
		}
		if bit != 0 {
			return 0, api.ErrForm
		}
		return a.only, api.OK
	}
	symbol, ok := a.code.Read(s.bits)
	if !ok {
		return 0, api.ErrShort
	}
	return symbol, api.OK
}

// fixedPair answers RFC 1951's fixed codes. They are kept for the stream's
// other blocks, of which there may be one to every ten bits.
func (s *stream) fixedPair() pair {
	if s.fixed.literals.count == 0 {
		s.fixed, _ = newPair(fixedLengths(), 288)
	}
	return s.fixed
}

// fixedLengths answers the lengths of the fixed codes: of 288 literals, and of
// 32 distances, since with those that mean something alone they were too few.
func fixedLengths() []int {
	lengths := make([]int, 0, 288+32)
	for _, run := range [][2]int{{144, 8}, {112, 9}, {24, 7}, {8, 8}, {32, 5}} {
		lengths = repeat(lengths, run[1], run[0])
	}
	return lengths
}

// repeat adds a length to the others so many times.
func repeat(lengths []int, length, times int) []int {
	for range times {
		lengths = append(lengths, length)
	}
	return lengths
}

// ownPair reads the codes that a block tells.
func (s *stream) ownPair() (pair, api.Errno) {
	head, e := s.take(14)
	if e != api.OK {
		return pair{}, e
	}
	literals, distances, short := head&31+257, head>>5&31+1, head>>10+4
	if literals > mostLiterals || distances > mostDistances {
		return pair{}, api.ErrForm
	}
	a, e := s.lengthsAlphabet(short)
	if e != api.OK {
		return pair{}, e
	}
	lengths, e := s.lengths(a, literals+distances)
	if e != api.OK {
		return pair{}, e
	}
	if lengths[endSymbol] == 0 {
		return pair{}, api.ErrForm
	}
	return newPair(lengths, literals)
}

// lengthsAlphabet reads the code by which the lengths of a block's codes are
// told; count is how many of its own lengths are.
func (s *stream) lengthsAlphabet(count int) (alphabet, api.Errno) {
	lengths := make([]int, len(order))
	for k := range count {
		n, e := s.take(3)
		if e != api.OK {
			return alphabet{}, e
		}
		lengths[order[k]] = n
	}
	return newAlphabet(lengths)
}

// lengths reads so many lengths. Those of literals and of distances are one
// list: a repeat may begin within the first and end within the second.
func (s *stream) lengths(a alphabet, count int) ([]int, api.Errno) {
	lengths := make([]int, 0, count)
	for len(lengths) < count {
		symbol, e := s.symbol(a)
		if e != api.OK {
			return nil, e
		}
		length, times, e := s.run(symbol, lengths)
		if e != api.OK {
			return nil, e
		}
		if times > count-len(lengths) {
			return nil, api.ErrForm
		}
		lengths = repeat(lengths, length, times)
	}
	return lengths, api.OK
}

// run answers which length a symbol stands for behind those ahead of it, and
// how many times.
func (s *stream) run(symbol int, ahead []int) (length, times int, e api.Errno) {
	least, wide := 3, 3
	switch {
	case symbol < 16:
		return symbol, 1, api.OK
	case symbol == 16 && len(ahead) == 0:
		return 0, 0, api.ErrForm
	case symbol == 16:
		length, wide = ahead[len(ahead)-1], 2
	case symbol == 18:
		least, wide = 11, 7
	}
	more, e := s.take(wide)
	if e != api.OK {
		return 0, 0, e
	}
	return length, least + more, api.OK
}
