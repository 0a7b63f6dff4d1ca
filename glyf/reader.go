package glyf

import "versal/peek"

// reader goes along a glyph's bytes. Behind a number that is not there it is
// of no more use.
type reader struct {
	bytes []byte
	at    int
}

// u8 reads a number of one byte.
func (r *reader) u8() (int, bool) {
	n, ok := peek.U8(r.bytes, r.at)
	r.at++
	return n, ok
}

// i8 reads a number of one byte, signed.
func (r *reader) i8() (int, bool) {
	n, ok := r.u8()
	return int(int8(n)), ok
}

// u16 reads a number of two bytes.
func (r *reader) u16() (int, bool) {
	n, ok := peek.U16(r.bytes, r.at)
	r.at += 2
	return n, ok
}

// i16 reads a number of two bytes, signed.
func (r *reader) i16() (int, bool) {
	n, ok := peek.I16(r.bytes, r.at)
	r.at += 2
	return n, ok
}

// pass passes over n bytes, if they are all there.
func (r *reader) pass(n int) bool {
	if n > len(r.bytes)-r.at {
		return false
	}
	r.at += n
	return true
}

// list reads n numbers of a kind, one behind the other, if they are all there.
func list(n int, read func() (int, bool)) ([]int, bool) {
	var numbers []int
	for range n {
		number, ok := read()
		if !ok {
			return nil, false
		}
		numbers = append(numbers, number)
	}
	return numbers, true
}
