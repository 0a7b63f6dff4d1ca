package zlib_test

import (
	"bytes"
	"compress/zlib"
	"slices"
	"strings"
	"testing"

	"versal/api"
	"versal/sample"
)

// refusals answers each reason for which a head is not taken.
func refusals(first, second int) []string {
	var why []string
	if first%16 != 8 {
		why = append(why, "method")
	}
	if first/16 > 7 {
		why = append(why, "window")
	}
	if (first*256+second)%31 != 0 {
		why = append(why, "check")
	}
	if second/32%2 == 1 {
		why = append(why, "dictionary")
	}
	return why
}

// 9.1: no byte and one byte are short, whichever it is.
func TestFewerThanTwo(t *testing.T) {
	for _, most := range []int{-1, 0, 9} {
		hold(t, "no bytes", nil, most, "", api.ErrShort)
		hold(t, "no bytes", []byte{}, most, "", api.ErrShort)
		for x := range 256 {
			hold(t, "one byte", []byte{byte(x)}, most, "", api.ErrShort)
		}
	}
}

// 9.1: of all heads those that are to be taken, and no other; each reason for a
// refusal by itself, and each with each other one.
func TestEachHead(t *testing.T) {
	body := framed([]byte{0x4b, 0x4c, 0x4a, 0x06, 0x00}, []byte("abc"))[2:]
	seen := make(map[string]int)
	for x := range 1 << 16 {
		b := append([]byte{byte(x >> 8), byte(x)}, body...)
		why := refusals(x>>8, x&255)
		seen[strings.Join(why, " ")]++
		if len(why) == 0 {
			hold(t, "a head that is taken", b, 3, "abc", api.OK)
			hold(t, "a head that is taken, nothing behind", b[:2], 3, "", api.ErrShort)
		} else {
			hold(t, "a head that is refused", b, 3, "", api.ErrForm)
			hold(t, "a head that is refused, nothing behind", b[:2], 3, "", api.ErrForm)
		}
		_, err := zlib.NewReader(bytes.NewReader(b))
		if (err == nil) != (len(why) == 0) {
			t.Errorf("head %04x: the library says %v", x, err)
		}
	}
	for _, why := range []string{
		"", "method", "window", "check", "dictionary", "method window", "method check", "method dictionary", "window check",
		"window dictionary", "check dictionary", "method window check", "method window dictionary", "method check dictionary",
		"window check dictionary", "method window check dictionary",
	} {
		if seen[why] == 0 {
			t.Errorf("no head of %q", why)
		}
	}
}

// 9.1: heads written out: the windows and ways that are known, and one bit's
// refusal beside each.
func TestKnownHeads(t *testing.T) {
	behind := framed([]byte{3, 0}, nil)[2:]
	for _, head := range []string{
		"\x78\x01", "\x78\x5e", "\x78\x9c", "\x78\xda", "\x68\x05", "\x68\x81", "\x58\x09", "\x58\x85", "\x48\x0d", "\x48\x89",
		"\x38\x11", "\x38\x8d", "\x28\x15", "\x28\x91", "\x18\x19", "\x18\x95", "\x08\x1d", "\x08\x99",
	} {
		fine(t, "a known head", append([]byte(head), behind...), "")
	}
	for _, c := range []struct{ why, head string }{
		{"method 7", "\x77\x09"}, {"method 9", "\x79\x18"}, {"method 0", "\x70\x00"}, {"method 15", "\x7f\x06"}, {"nothing", "\x00\x00"},
		{"window 8", "\x88\x1c"}, {"window 15", "\xf8\x00"}, {"a check less", "\x78\x00"}, {"a check more", "\x78\x02"},
		{"the bytes about", "\x01\x78"}, {"a dictionary", "\x78\x20"}, {"a dictionary", "\x78\xbb"}, {"a dictionary", "\x78\x7d"},
	} {
		wrong(t, c.why, append([]byte(c.head), behind...), api.ErrForm)
	}
}

// 9.1: a dictionary is refused, also where its four bytes come behind the head.
func TestDictionary(t *testing.T) {
	for _, head := range []string{"\x78\x20", "\x78\x3f", "\x78\xbb", "\x78\x7d", "\x78\xf9"} {
		b := slices.Concat([]byte(head), adler([]byte("abc")), framed([]byte{3, 0}, nil)[2:])
		wrong(t, "a dictionary", b, api.ErrForm)
		hold(t, "a dictionary, no room", b, 0, "", api.ErrForm)
	}
}

// 9.1: the window is told and not held against the distances: no error is named
// for one that is beyond it.
func TestWindowIsNotHeld(t *testing.T) {
	text := append(sample.Bytes(1000, 5), sample.Bytes(1000, 5)...)
	b := deflated(t, 9, text)
	if len(b) > 1200 {
		t.Fatal("nothing was copied from afar")
	}
	small := slices.Concat([]byte{0x08, 0x1d}, b[2:])
	fine(t, "a window of 256", small, string(text))
}
