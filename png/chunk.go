package png

import (
	"versal/api"
	"versal/peek"
	"versal/sums"
)

const (
	// mostLength is what PNG lets the length of a chunk be.
	mostLength = 1<<31 - 1
	// aheadSize and markSize are how many bytes of a chunk lie ahead of its
	// own, the length and the name, and behind them, the CRC.
	aheadSize = 8
	markSize  = 4
	nameSize  = 4
	// entrySize is of one entry of a palette, mostPalette of all of them.
	entrySize   = 3
	mostPalette = 768
)

// chunk is a name, and what stands beneath it.
type chunk struct {
	name string
	body []byte
}

// file is what the chunks have told so far.
type file struct {
	last    string // the name of the chunk ahead; empty ahead of the first one
	head    head
	palette []byte
	cleared bool   // there was a tRNS; that of an indexed image may be empty
	clear   [4]int // by tRNS, the samples of the pixels that are not seen
	alphas  []byte // by tRNS, of the palette's first entries
	begun   bool   // there was an IDAT, even if it was empty
	stream  []byte
}

// walk takes each chunk from at on, till the end that one of them tells.
func (f *file) walk(b []byte, at int) api.Errno {
	for f.last != endName {
		c, e := chunkAt(b, at)
		if e != api.OK {
			return e
		}
		if e := f.take(c); e != api.OK {
			return e
		}
		f.last = c.name
		at += aheadSize + len(c.body) + markSize
	}
	if at < len(b) {
		return api.ErrForm
	}
	return api.OK
}

// chunkAt answers the chunk that begins at at.
func chunkAt(b []byte, at int) (chunk, api.Errno) {
	ahead, ok := peek.Part(b, at, aheadSize)
	if !ok {
		return chunk{}, api.ErrShort
	}
	size, _ := peek.U32(ahead, 0)
	if size > mostLength {
		return chunk{}, api.ErrForm
	}
	mark, ok := peek.U32(b, at+aheadSize+size)
	if !ok {
		return chunk{}, api.ErrShort
	}
	named, _ := peek.Part(b, at+aheadSize-nameSize, nameSize+size)
	if mark != sums.Crc(named) {
		return chunk{}, api.ErrMark
	}
	return chunk{name: string(named[:nameSize]), body: named[nameSize:]}, api.OK
}

// take hears what a chunk tells. The head is told first, and once: an image
// without one would mean nothing to the others.
func (f *file) take(c chunk) api.Errno {
	first := f.last == ""
	if first != (c.name == headName) {
		return api.ErrForm
	}
	switch c.name {
	case headName:
		return f.takeHead(c.body)
	case paletteName:
		return f.takePalette(c.body)
	case clearName:
		return f.takeClear(c.body)
	case dataName:
		return f.takeData(c.body)
	case endName:
		return f.takeEnd(c.body)
	}
	if !passedOver(c.name) {
		return api.ErrForm
	}
	return api.OK
}

// takeHead hears of the image's sides and its form.
func (f *file) takeHead(body []byte) api.Errno {
	h, e := headIn(body)
	if e != api.OK {
		return e
	}
	f.head = h
	return api.OK
}

// takePalette hears of the palette. Images of types 2 and 6 may tell one as
// well, for screens of few colours; nothing of theirs is looked up in it.
func (f *file) takePalette(body []byte) api.Errno {
	n := len(body)
	switch {
	case f.begun || f.palette != nil || f.head.kind == gray || f.head.kind == grayAlpha:
		return api.ErrForm
	case n == 0 || n%entrySize != 0 || n > mostPalette:
		return api.ErrForm
	case f.head.kind == indexed && n/entrySize > 1<<f.head.depth:
		return api.ErrForm
	}
	f.palette = body
	return api.OK
}

// takeClear hears of what is not seen, or not wholly.
func (f *file) takeClear(body []byte) api.Errno {
	if f.begun || f.cleared || !f.clears(len(body)) {
		return api.ErrForm
	}
	f.cleared = true
	if f.head.kind == indexed {
		f.alphas = body
		return api.OK
	}
	for k := range f.head.samples() {
		f.clear[k], _ = peek.U16(body, 2*k)
	}
	return api.OK
}

// clears tells whether so many bytes can tell what is not seen. None at all
// are no more than the entries of a palette, but not ahead of it.
func (f *file) clears(size int) bool {
	switch f.head.kind {
	case gray, colour:
		return size == 2*f.head.samples()
	case indexed:
		return f.palette != nil && size <= len(f.palette)/entrySize
	}
	return false
}

// takeData hears the next bytes of the stream.
func (f *file) takeData(body []byte) api.Errno {
	if f.head.kind == indexed && f.palette == nil {
		return api.ErrForm
	}
	if f.begun && f.last != dataName {
		return api.ErrForm
	}
	f.begun = true
	f.stream = append(f.stream, body...)
	return api.OK
}

// takeEnd hears that there are no more chunks.
func (f *file) takeEnd(body []byte) api.Errno {
	if len(body) > 0 || !f.begun {
		return api.ErrForm
	}
	return api.OK
}

// passedOver tells whether a chunk that says nothing here may stand: its name
// is of letters, and the first one says that it may be left unread.
func passedOver(name string) bool {
	for k := range len(name) {
		if !isSmall(name[k]) && !isGreat(name[k]) {
			return false
		}
	}
	return isSmall(name[0])
}

func isSmall(c byte) bool { return c >= 'a' && c <= 'z' }

func isGreat(c byte) bool { return c >= 'A' && c <= 'Z' }
