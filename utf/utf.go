// Package utf: encodings: bytes as scalars, and back: see doc/01-utf.md.
package utf

import (
	"unicode/utf8"

	"targum/api"
)

// Units of two bytes: from highFirst on the first of a pair, from lowFirst on the second, from pairEnd on neither.
const (
	highFirst = 0xD800
	lowFirst  = 0xDC00
	pairEnd   = 0xE000
	paired    = 0x10000 // the first scalar that takes a pair
)

// Detect tells the encoding that b begins with, and how many bytes its mark has.
func Detect(b []byte) (int, int) {
	enc, mark := 0, 0
	// What isn't a long beginning may still be a shorter one. The one of three
	// bytes is asked ahead of those of two: none of them can be the other.
	switch min(len(b), 4) {
	case 4:
		if enc, mark = detectFour(b); enc != 0 {
			return enc, mark
		}
		fallthrough
	case 3:
		if b[0] == 0xEF && b[1] == 0xBB && b[2] == 0xBF {
			return api.Utf8, 3
		}
		fallthrough
	case 2:
		if enc, mark = detectTwo(b); enc != 0 {
			return enc, mark
		}
	}
	return api.Utf8, 0
}

func detectFour(b []byte) (int, int) {
	switch {
	case b[0] == 0 && b[1] == 0 && b[2] == 0xFE && b[3] == 0xFF:
		return api.Utf32BE, 4
	case b[0] == 0 && b[1] == 0 && b[2] == 0 && b[3] != 0:
		return api.Utf32BE, 0
	case b[0] == 0xFF && b[1] == 0xFE && b[2] == 0 && b[3] == 0:
		return api.Utf32LE, 4
	case b[0] != 0 && b[1] == 0 && b[2] == 0 && b[3] == 0:
		return api.Utf32LE, 0
	}
	return 0, 0
}

func detectTwo(b []byte) (int, int) {
	switch {
	case b[0] == 0xFE && b[1] == 0xFF:
		return api.Utf16BE, 2
	case b[0] == 0 && b[1] != 0:
		return api.Utf16BE, 0
	case b[0] == 0xFF && b[1] == 0xFE:
		return api.Utf16LE, 2
	case b[0] != 0 && b[1] == 0:
		return api.Utf16LE, 0
	}
	return 0, 0
}

// Decode reads the scalars of b in the encoding that Detect tells.
func Decode(b []byte) (api.Text, api.Fault) {
	enc, mark := Detect(b)
	var s []byte
	for i := mark; i < len(b); {
		r, n := next(enc, b[i:])
		if n == 0 {
			return api.Text{}, api.Fault{Code: api.ErrChar, Off: i}
		}
		s = utf8.AppendRune(s, r)
		i += n
	}
	return api.Text{Enc: enc, Mark: mark, S: string(s)}, api.Fault{}
}

// next reads the scalar that b begins with, and how many bytes it has there; 0 bytes, if there is none.
func next(enc int, b []byte) (rune, int) {
	switch enc {
	case api.Utf8:
		r, n := utf8.DecodeRune(b)
		// U+FFFD itself has three bytes; with fewer it stands for a fault.
		if r == utf8.RuneError && n < 3 {
			return 0, 0
		}
		return r, n
	case api.Utf16BE:
		fallthrough
	case api.Utf16LE:
		return nextOfTwo(enc, b)
	}
	return nextOfFour(enc, b)
}

func nextOfTwo(enc int, b []byte) (rune, int) {
	if len(b) < 2 {
		return 0, 0
	}
	high := unit(enc, b)
	if high < highFirst || high >= pairEnd {
		return rune(high), 2
	}
	if high >= lowFirst || len(b) < 4 {
		return 0, 0
	}
	low := unit(enc, b[2:])
	if low < lowFirst || low >= pairEnd {
		return 0, 0
	}
	return rune(paired + (high-highFirst)<<10 + (low - lowFirst)), 4
}

func nextOfFour(enc int, b []byte) (rune, int) {
	if len(b) < 4 {
		return 0, 0
	}
	u := unit(enc, b)
	// Asked of the number itself: as a rune a great one would be below 0.
	if u > utf8.MaxRune || u >= highFirst && u < pairEnd {
		return 0, 0
	}
	return rune(u), 4
}

// unit is the number that the first two or four bytes of b are in enc.
func unit(enc int, b []byte) uint32 {
	u := uint32(0)
	// The lower half of a unit of four bytes is read as a unit of two is.
	switch enc {
	case api.Utf32BE:
		u = uint32(b[0])<<24 | uint32(b[1])<<16
		b = b[2:]
		fallthrough
	case api.Utf16BE:
		u |= uint32(b[0])<<8 | uint32(b[1])
	case api.Utf32LE:
		u = uint32(b[3])<<24 | uint32(b[2])<<16
		fallthrough
	case api.Utf16LE:
		u |= uint32(b[1])<<8 | uint32(b[0])
	}
	return u
}

// Encode writes the scalars of s in enc, without a mark.
func Encode(enc int, s string) []byte {
	// Size is 0 also where there is nothing to be told, so that the loop must not be run then.
	out := make([]byte, Size(enc, s))
	if len(out) == 0 {
		return nil
	}
	at := 0
	for _, r := range s {
		put(enc, out[at:], r)
		at += sizeOf(enc, r)
	}
	return out
}

// put lays r in enc at the beginning of b, which has room for it.
func put(enc int, b []byte, r rune) {
	switch enc {
	case api.Utf8:
		utf8.EncodeRune(b, r)
	case api.Utf16BE:
		fallthrough
	case api.Utf16LE:
		if r >= paired {
			above := uint32(r - paired)
			putUnit(enc, b, highFirst+above>>10)
			putUnit(enc, b[2:], lowFirst+above&0x3FF)
			return
		}
		fallthrough // a scalar without a pair is one unit, as in Utf32
	case api.Utf32BE:
		fallthrough
	case api.Utf32LE:
		putUnit(enc, b, uint32(r))
	}
}

// putUnit lays u in enc as the first two or four bytes of b.
func putUnit(enc int, b []byte, u uint32) {
	// The lower half of a unit of four bytes is written as a unit of two is.
	switch enc {
	case api.Utf32BE:
		b[0], b[1] = byte(u>>24), byte(u>>16)
		b = b[2:]
		fallthrough
	case api.Utf16BE:
		b[0], b[1] = byte(u>>8), byte(u)
	case api.Utf32LE:
		b[3], b[2] = byte(u>>24), byte(u>>16)
		fallthrough
	case api.Utf16LE:
		b[1], b[0] = byte(u>>8), byte(u)
	}
}

// Size tells how many bytes Encode writes.
func Size(enc int, s string) int {
	if !utf8.ValidString(s) {
		return 0
	}
	n := 0
	for _, r := range s {
		n += sizeOf(enc, r)
	}
	return n
}

// sizeOf tells how many bytes r has in enc; 0, if enc is no encoding.
func sizeOf(enc int, r rune) int {
	switch enc {
	case api.Utf8:
		return utf8.RuneLen(r)
	case api.Utf16BE:
		fallthrough
	case api.Utf16LE:
		if r < paired {
			return 2
		}
		fallthrough // a pair has as many bytes as a unit of Utf32
	case api.Utf32BE:
		fallthrough
	case api.Utf32LE:
		return 4
	}
	return 0
}
