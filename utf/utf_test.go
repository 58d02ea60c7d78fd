package utf

import (
	"bytes"
	"encoding/binary"
	"math"
	"slices"
	"strconv"
	"strings"
	"testing"
	"unicode/utf16"
	"unicode/utf8"

	"targum/api"
)

var encodings = []int{api.Utf8, api.Utf16BE, api.Utf16LE, api.Utf32BE, api.Utf32LE}

var noEncodings = []int{0, 6, 7, 8, -1, -2, api.V11, api.V12, 1 << 32, 1<<32 + 1, math.MaxInt, math.MinInt}

// markOf is the mark of an encoding, as the chapter's table writes it.
func markOf(enc int) string {
	return map[int]string{
		api.Utf8:    "\xEF\xBB\xBF",
		api.Utf16BE: "\xFE\xFF",
		api.Utf16LE: "\xFF\xFE",
		api.Utf32BE: "\x00\x00\xFE\xFF",
		api.Utf32LE: "\xFF\xFE\x00\x00",
	}[enc]
}

// written writes a well-formed text in an encoding by the library's means, not by those of the package.
func written(enc int, s string) []byte {
	var order binary.AppendByteOrder = binary.BigEndian
	if enc == api.Utf16LE || enc == api.Utf32LE {
		order = binary.LittleEndian
	}
	var out []byte
	switch enc {
	case api.Utf8:
		return []byte(s)
	case api.Utf16BE, api.Utf16LE:
		for _, u := range utf16.Encode([]rune(s)) {
			out = order.AppendUint16(out, u)
		}
	case api.Utf32BE, api.Utf32LE:
		for _, r := range s {
			out = order.AppendUint32(out, uint32(r))
		}
	}
	return out
}

// detected reads the table of P1.1 row by row; x stands for a byte that isn't 0.
func detected(b []byte) (int, int) {
	for _, row := range []struct {
		begin     string
		enc, mark int
	}{
		{"00 00 FE FF", api.Utf32BE, 4},
		{"00 00 00 x", api.Utf32BE, 0},
		{"FF FE 00 00", api.Utf32LE, 4},
		{"x 00 00 00", api.Utf32LE, 0},
		{"FE FF", api.Utf16BE, 2},
		{"00 x", api.Utf16BE, 0},
		{"FF FE", api.Utf16LE, 2},
		{"x 00", api.Utf16LE, 0},
		{"EF BB BF", api.Utf8, 3},
	} {
		if beginsWith(b, strings.Fields(row.begin)) {
			return row.enc, row.mark
		}
	}
	return api.Utf8, 0
}

func beginsWith(b []byte, signs []string) bool {
	if len(b) < len(signs) {
		return false
	}
	for i, sign := range signs {
		if sign == "x" {
			if b[i] == 0 {
				return false
			}
		} else if n, err := strconv.ParseUint(sign, 16, 8); err != nil || b[i] != byte(n) {
			return false
		}
	}
	return true
}

// P1.1: the rows of the table, and what lacks a byte of one.
func TestDetectRows(t *testing.T) {
	for _, c := range []struct {
		b         string
		enc, mark int
	}{
		{"\x00\x00\xFE\xFF", api.Utf32BE, 4},
		{"\x00\x00\xFE\xFFa", api.Utf32BE, 4},
		{"\x00\x00\xFE", api.Utf8, 0},
		{"\x00\x00\xFE\x00", api.Utf8, 0},
		{"\x00\x00\x00a", api.Utf32BE, 0},
		{"\x00\x00\x00\xFF", api.Utf32BE, 0},
		{"\x00\x00\x00", api.Utf8, 0},
		{"\x00\x00\x00\x00", api.Utf8, 0},
		{"\x00\x00\x00\x00a", api.Utf8, 0},
		{"\xFF\xFE\x00\x00", api.Utf32LE, 4},
		{"\xFF\xFE\x00", api.Utf16LE, 2},
		{"\xFF\xFE\x00a", api.Utf16LE, 2},
		{"\xFF\xFEa\x00", api.Utf16LE, 2},
		{"\xFF\xFE", api.Utf16LE, 2},
		{"\xFF", api.Utf8, 0},
		{"a\x00\x00\x00", api.Utf32LE, 0},
		{"\xFE\x00\x00\x00", api.Utf32LE, 0},
		{"\xFF\x00\x00\x00", api.Utf32LE, 0},
		{"a\x00\x00", api.Utf16LE, 0},
		{"a\x00\x00a", api.Utf16LE, 0},
		{"a\x00", api.Utf16LE, 0},
		{"\xFE\xFF", api.Utf16BE, 2},
		{"\xFE\xFF\x00\x00", api.Utf16BE, 2},
		{"\xFE", api.Utf8, 0},
		{"\x00a", api.Utf16BE, 0},
		{"\x00\xFF", api.Utf16BE, 0},
		{"\x00a\x00\x00", api.Utf16BE, 0},
		{"\x00", api.Utf8, 0},
		{"\x00\x00", api.Utf8, 0},
		{"\xEF\xBB\xBF", api.Utf8, 3},
		{"\xEF\xBB\xBF\x00", api.Utf8, 3},
		{"\xEF\xBB\xBE", api.Utf8, 0},
		{"\xEF\xBB", api.Utf8, 0},
		{"\xEF\x00\xBF", api.Utf16LE, 0},
		{"ab", api.Utf8, 0},
		{"a", api.Utf8, 0},
		{"", api.Utf8, 0},
	} {
		if enc, mark := Detect([]byte(c.b)); enc != c.enc || mark != c.mark {
			t.Errorf("P1.1: Detect of %X: %d, %d, not %d, %d", c.b, enc, mark, c.enc, c.mark)
		}
	}
	if enc, mark := Detect(nil); enc != api.Utf8 || mark != 0 {
		t.Errorf("P1.1: Detect of nil: %d, %d", enc, mark)
	}
}

// P1.1: all beginnings of up to five of the bytes that the table tells apart, and all pairs of bytes.
func TestDetectAll(t *testing.T) {
	for b := range rows([]byte{0, 1, 'a', 0xBB, 0xBF, 0xEF, 0xFE, 0xFF}, 5) {
		checkDetect(t, b)
	}
	for n := range 1 << 16 {
		checkDetect(t, []byte{byte(n >> 8), byte(n)})
	}
}

func checkDetect(t *testing.T, b []byte) {
	t.Helper()
	enc, mark := Detect(b)
	if wantEnc, wantMark := detected(b); enc != wantEnc || mark != wantMark {
		t.Errorf("P1.1: Detect of %X: %d, %d, not %d, %d", b, enc, mark, wantEnc, wantMark)
	}
}

// rows yields every row of at most n of the bytes, the empty one too.
func rows(signs []byte, n int) func(func([]byte) bool) {
	return func(yield func([]byte) bool) {
		last := [][]byte{{}}
		for range n + 1 {
			var longer [][]byte
			for _, row := range last {
				if !yield(row) {
					return
				}
				for _, sign := range signs {
					longer = append(longer, append(slices.Clip(row), sign))
				}
			}
			last = longer
		}
	}
}

// P1.2: what is read.
func TestDecodeRead(t *testing.T) {
	for _, c := range []struct {
		b         string
		enc, mark int
		s         string
	}{
		{"", api.Utf8, 0, ""},
		{"\x00", api.Utf8, 0, "\x00"},
		{"\x00\x00\x00\x00", api.Utf8, 0, "\x00\x00\x00\x00"},
		{"\xEF\xBB\xBF", api.Utf8, 3, ""},
		{"\xEF\xBB\xBFa", api.Utf8, 3, "a"},
		{"\xEF\xBB\xBF\xEF\xBB\xBF", api.Utf8, 3, "\uFEFF"},
		{"\xEF\xBB\xBFa\x00", api.Utf8, 3, "a\x00"},
		{"a\xEF\xBF\xBDb", api.Utf8, 0, "a\uFFFDb"},
		{"\x7F\xC2\x80\xDF\xBF\xE0\xA0\x80\xEF\xBF\xBF\xF0\x90\x80\x80\xF4\x8F\xBF\xBF", api.Utf8, 0, "\x7F\u0080\u07FF\u0800\uFFFF\U00010000\U0010FFFF"},
		{"\xED\x9F\xBF\xEE\x80\x80", api.Utf8, 0, "\uD7FF\uE000"},
		{"\xFE\xFF", api.Utf16BE, 2, ""},
		{"\xFE\xFF\x00\x00", api.Utf16BE, 2, "\x00"},
		{"\xFE\xFF\xFE\xFF\xFF\xFD", api.Utf16BE, 2, "\uFEFF\uFFFD"},
		{"\x00a\xD7\xFF\xE0\x00\xD8\x00\xDC\x00\xDB\xFF\xDF\xFF", api.Utf16BE, 0, "a\uD7FF\uE000\U00010000\U0010FFFF"},
		{"\xFF\xFE", api.Utf16LE, 2, ""},
		{"\xFF\xFE\xFF\xFEa\x00", api.Utf16LE, 2, "\uFEFFa"},
		{"a\x00\x3D\xD8\x00\xDE", api.Utf16LE, 0, "a\U0001F600"},
		{"\x00\x00\xFE\xFF", api.Utf32BE, 4, ""},
		{"\x00\x00\xFE\xFF\x00\x00\xFE\xFF\x00\x00\x00\x00", api.Utf32BE, 4, "\uFEFF\x00"},
		{"\x00\x00\x00a\x00\x00\xD7\xFF\x00\x00\xE0\x00\x00\x10\xFF\xFF", api.Utf32BE, 0, "a\uD7FF\uE000\U0010FFFF"},
		{"\xFF\xFE\x00\x00", api.Utf32LE, 4, ""},
		{"\xFF\xFE\x00\x00\xFF\xFF\x10\x00\x00\x00\x01\x00", api.Utf32LE, 4, "\U0010FFFF\U00010000"},
		{"a\x00\x00\x00\x34\x12\x00\x00", api.Utf32LE, 0, "a\u1234"},
	} {
		text, fault := Decode([]byte(c.b))
		if want := (api.Text{Enc: c.enc, Mark: c.mark, S: c.s}); text != want || fault != (api.Fault{}) {
			t.Errorf("P1.2: Decode of %X: %v, %v, not %v", c.b, text, fault, want)
		}
	}
}

// P1.2: what isn't read, and where.
func TestDecodeFaults(t *testing.T) {
	for _, c := range []struct {
		b   string
		off int
	}{
		{"a\xFF", 1},
		{"\xEF\xBB\xBF\xFF", 3},
		{"\xEF\xBB\xBFa\xEF\xBB", 4},
		{"\xC3", 0},
		{"a\xC3(", 1},
		{"a\x80", 1},
		{"a\xE2\x82", 1},
		{"a\xF0\x9F\x98", 1},
		{"a\xF0\x9F\x98a", 1},
		{"a\xC0\x80", 1},
		{"a\xC1\xBF", 1},
		{"a\xE0\x9F\xBF", 1},
		{"a\xF0\x8F\xBF\xBF", 1},
		{"a\xED\xA0\x80", 1},
		{"a\xED\xBF\xBF", 1},
		{"a\xF4\x90\x80\x80", 1},
		{"a\xF5\x80\x80\x80", 1},
		{"\xC3\xA9\xFF\xFF", 2},
		{"\xFE\xFF\x00", 2},
		{"\x00a\x00", 2},
		{"\xFE\xFF\xDC\x00", 2},
		{"\xFE\xFF\xDF\xFF\x00a", 2},
		{"\xFE\xFF\xD8\x00", 2},
		{"\xFE\xFF\xD8\x00\xDC", 2},
		{"\xFE\xFF\xD8\x00\x00a", 2},
		{"\xFE\xFF\xD8\x00\xDB\xFF\xDC\x00", 2},
		{"\xFE\xFF\xDB\xFF\xE0\x00", 2},
		{"\xFE\xFF\xD8\x00\xDC\x00\xDC\x00", 6},
		{"\x00a\xD8\x00\xDC\x00\xD8", 6},
		{"\xFF\xFEa", 2},
		{"a\x00\x00\xDC", 2},
		{"a\x00\x00\xD8b\x00", 2},
		{"\x00\x00\xFE\xFF\x00", 4},
		{"\x00\x00\x00a\x00\x00\x00", 4},
		{"\x00\x00\x00a\x00\x00\xD8\x00", 4},
		{"\x00\x00\x00a\x00\x00\xDF\xFF", 4},
		{"\x00\x00\x00a\x00\x11\x00\x00", 4},
		{"\x00\x00\x00a\x01\x00\x00a", 4},
		{"\x00\x00\x00a\x80\x00\x00\x00", 4},
		{"\x00\x00\x00a\xFF\xFF\xFF\xFF", 4},
		{"\x00\x00\x00a\x00\x00\x00b\x00", 8},
		{"\xFF\xFE\x00\x00a\x00\x00", 4},
		{"a\x00\x00\x00\x00\x00\x11\x00", 4},
		{"a\x00\x00\x00a\x00\x00\x80", 4},
	} {
		text, fault := Decode([]byte(c.b))
		if want := (api.Fault{Code: api.ErrChar, Off: c.off}); fault != want || text != (api.Text{}) {
			t.Errorf("P1.2: Decode of %X: %v, %v, not %v", c.b, text, fault, want)
		}
	}
}

// P1.2: every unit of two bytes, alone, ahead of a unit of each kind, and behind one.
func TestDecodeUnitsOfTwo(t *testing.T) {
	neighbours := []uint16{0, 'a', 0xD7FF, 0xD800, 0xDBFF, 0xDC00, 0xDFFF, 0xE000, 0xFFFF}
	for n := range 1 << 16 {
		checkUnits(t, uint16(n))
		for _, other := range neighbours {
			checkUnits(t, uint16(n), other)
			checkUnits(t, other, uint16(n))
		}
	}
}

// checkUnits decodes the units, marked, in both orders.
func checkUnits(t *testing.T, units ...uint16) {
	t.Helper()
	s, bad := readUnits(units)
	for _, enc := range []int{api.Utf16BE, api.Utf16LE} {
		b := []byte(markOf(enc))
		for _, u := range units {
			if enc == api.Utf16BE {
				b = append(b, byte(u>>8), byte(u))
			} else {
				b = append(b, byte(u), byte(u>>8))
			}
		}
		// A first unit 0 behind the mark of Utf16LE makes it the one of Utf32LE.
		if enc == api.Utf16LE && units[0] == 0 {
			continue
		}
		want, fault := api.Text{Enc: enc, Mark: 2, S: s}, api.Fault{}
		if bad >= 0 {
			want, fault = api.Text{}, api.Fault{Code: api.ErrChar, Off: 2 + 2*bad}
		}
		if text, f := Decode(b); text != want || f != fault {
			t.Errorf("P1.2: Decode of %X: %v, %v, not %v, %v", b, text, f, want, fault)
		}
	}
}

// readUnits is the text of the units, or which of them begins no scalar (-1: each does).
func readUnits(units []uint16) (string, int) {
	s := ""
	for i := 0; i < len(units); i++ {
		r := rune(units[i])
		if utf16.IsSurrogate(r) {
			if i+1 == len(units) || utf16.DecodeRune(r, rune(units[i+1])) == utf8.RuneError {
				return "", i
			}
			r = utf16.DecodeRune(r, rune(units[i+1]))
			i++
		}
		s += string(r)
	}
	return s, -1
}

// P1.2: rows of the bytes at which UTF-8 changes its mind, held against the library's own reading.
func TestDecodeRowsOfBytes(t *testing.T) {
	signs := []byte{'a', 0x7F, 0x80, 0x8F, 0x90, 0x9F, 0xA0, 0xBF, 0xC1, 0xC2, 0xDF, 0xE0, 0xED, 0xEF, 0xF0, 0xF4, 0xF5}
	for row := range rows(signs, 4) {
		b := append([]byte("a"), row...)
		want, fault := api.Text{Enc: api.Utf8, S: string(b)}, api.Fault{}
		if !utf8.Valid(b) {
			want, fault = api.Text{}, api.Fault{Code: api.ErrChar, Off: validUpTo(b)}
		}
		if text, f := Decode(b); text != want || f != fault {
			t.Errorf("P1.2: Decode of %X: %v, %v, not %v, %v", b, text, f, want, fault)
		}
	}
}

// validUpTo is the length of the longest beginning that is well-formed.
func validUpTo(b []byte) int {
	n := len(b)
	for !utf8.Valid(b[:n]) {
		n--
	}
	return n
}

// P1.3: ordinary texts and the edges of each length.
func TestEncodeTexts(t *testing.T) {
	const s = "a\u00E9\u20AC\U0001F600"
	for _, c := range []struct {
		enc     int
		s, want string
	}{
		{api.Utf8, s, "a\xC3\xA9\xE2\x82\xAC\xF0\x9F\x98\x80"},
		{api.Utf16BE, s, "\x00a\x00\xE9\x20\xAC\xD8\x3D\xDE\x00"},
		{api.Utf16LE, s, "a\x00\xE9\x00\xAC\x20\x3D\xD8\x00\xDE"},
		{api.Utf32BE, s, "\x00\x00\x00a\x00\x00\x00\xE9\x00\x00\x20\xAC\x00\x01\xF6\x00"},
		{api.Utf32LE, s, "a\x00\x00\x00\xE9\x00\x00\x00\xAC\x20\x00\x00\x00\xF6\x01\x00"},
		{api.Utf16BE, "\uFFFF\U00010000\U0010FFFF", "\xFF\xFF\xD8\x00\xDC\x00\xDB\xFF\xDF\xFF"},
		{api.Utf16LE, "\uFFFF\U00010000\U0010FFFF", "\xFF\xFF\x00\xD8\x00\xDC\xFF\xDB\xFF\xDF"},
		{api.Utf32BE, "\x00\U0010FFFF", "\x00\x00\x00\x00\x00\x10\xFF\xFF"},
		{api.Utf32LE, "\x00\U0010FFFF", "\x00\x00\x00\x00\xFF\xFF\x10\x00"},
		{api.Utf8, "\uFEFF\uFFFD", "\xEF\xBB\xBF\xEF\xBF\xBD"},
		{api.Utf16BE, "\uFEFF\uFFFD", "\xFE\xFF\xFF\xFD"},
	} {
		if b := Encode(c.enc, c.s); string(b) != c.want {
			t.Errorf("P1.3: Encode(%d, %q): %X, not %X", c.enc, c.s, b, c.want)
		}
		if n := Size(c.enc, c.s); n != len(c.want) {
			t.Errorf("P1.3: Size(%d, %q): %d, not %d", c.enc, c.s, n, len(c.want))
		}
	}
}

// P1.3: nothing of what is no encoding, and of what isn't well-formed.
func TestEncodeNothing(t *testing.T) {
	for _, enc := range noEncodings {
		for _, s := range []string{"", "a", "\u00E9", "\U0001F600", "a\xFF"} {
			checkNothing(t, enc, s)
		}
	}
	bad := []string{"", "\xFF", "a\xFF", "\xFFa", "\x80", "\xC3", "a\xC3(", "\xC0\x80", "\xE0\x80\x80", "\xED\xA0\x80", "\xED\xBF\xBF", "\xF4\x90\x80\x80", "\u20AC\xE2\x82", "\U0001F600\xF0\x9F\x98"}
	for _, enc := range encodings {
		for _, s := range bad {
			checkNothing(t, enc, s)
		}
	}
}

func checkNothing(t *testing.T, enc int, s string) {
	t.Helper()
	if b, n := Encode(enc, s), Size(enc, s); len(b) != 0 || n != 0 {
		t.Errorf("P1.3: of %q in %d: %X, %d bytes", s, enc, b, n)
	}
}

// P1.3, P1.4: every scalar in every encoding, alone and between others, and read again.
func TestEveryScalar(t *testing.T) {
	for r := rune(0); r <= utf8.MaxRune; r++ {
		if !utf8.ValidRune(r) {
			continue
		}
		s := "x" + string(r) + "y"
		for _, enc := range encodings {
			want := written(enc, s)
			if b := Encode(enc, s); !bytes.Equal(b, want) || Size(enc, s) != len(want) {
				t.Fatalf("P1.3: of %q in %d: %X, %d bytes, not %X", s, enc, b, Size(enc, s), want)
			}
			// Marked, for without a mark an x and a 0 in Utf8 would be one unit of Utf16LE.
			mark := markOf(enc)
			text, fault := Decode(append([]byte(mark), want...))
			if text != (api.Text{Enc: enc, Mark: len(mark), S: s}) || fault != (api.Fault{}) {
				t.Fatalf("P1.4: %q, marked, in %d: %v, %v", s, enc, text, fault)
			}
		}
	}
}

// P1.4: what is written, with the mark or without it, is read as it was.
func TestThereAndBack(t *testing.T) {
	for _, s := range []string{"", "a", "\uFEFF", "a\r\n\u0085\u2028b", "\U0010FFFF\u0000\uD7FF", "\uFFFD", strings.Repeat("\u20ACa\U0001F600", 500)} {
		for _, enc := range encodings {
			mark := markOf(enc)
			text, fault := Decode(append([]byte(mark), Encode(enc, s)...))
			if text != (api.Text{Enc: enc, Mark: len(mark), S: s}) || fault != (api.Fault{}) {
				t.Errorf("P1.4: %q, marked, in %d: %v, %v", s, enc, text, fault)
			}
			text, fault = Decode(Encode(enc, "a"+s))
			if text != (api.Text{Enc: enc, S: "a" + s}) || fault != (api.Fault{}) {
				t.Errorf("P1.4: %q, unmarked, in %d: %v, %v", "a"+s, enc, text, fault)
			}
		}
	}
}

// P1.4: a beginning of the text is a beginning of the bytes, and as long as Size says.
func TestBeginningsHavePlaces(t *testing.T) {
	const s = "a\u00E9\u20AC\U0001F600\u0000\uFEFF\U00010000z\uFFFF"
	for _, enc := range encodings {
		all := Encode(enc, s)
		for k := range len(s) + 1 {
			if !utf8.ValidString(s[:k]) {
				checkNothing(t, enc, s[:k])
				continue
			}
			at := Size(enc, s[:k])
			if !bytes.Equal(Encode(enc, s[:k]), all[:at]) || !bytes.Equal(Encode(enc, s[k:]), all[at:]) {
				t.Errorf("P1.4: the %d first bytes of the text in %d: %d", k, enc, at)
			}
		}
	}
}

// DOC.md, rule 3: what is handed in stays as it is, and what is answered is new memory.
func TestMemoryIsApart(t *testing.T) {
	for _, enc := range encodings {
		room := append([]byte(markOf(enc)), written(enc, "a\U0001F600")...)
		n := len(room)
		room = append(room, "spare room"...)
		kept := string(room)
		Detect(room[:n])
		text, _ := Decode(room[:n])
		if string(room) != kept {
			t.Errorf("Decode in %d changed what it was given", enc)
		}
		clear(room)
		if text.S != "a\U0001F600" {
			t.Errorf("Decode in %d kept what it was given", enc)
		}
		first, second := Encode(enc, text.S), Encode(enc, text.S)
		clear(first[:cap(first)])
		if !bytes.Equal(second, written(enc, text.S)) {
			t.Errorf("two answers of Encode in %d share memory", enc)
		}
	}
}

// FuzzDecode: P1.2 to P1.4 at all bytes: a fault lies in them, and what is read is written back.
func FuzzDecode(f *testing.F) {
	for _, enc := range encodings {
		f.Add(append([]byte(markOf(enc)), written(enc, "a\U0001F600")...))
		f.Add(append(written(enc, "a\U0001F600"), 0xD8))
	}
	f.Fuzz(func(t *testing.T, b []byte) {
		enc, mark := Detect(b)
		checkDetect(t, b)
		text, fault := Decode(b)
		if fault != (api.Fault{}) {
			if fault.Code != api.ErrChar || fault.Off < mark || fault.Off >= len(b) || text != (api.Text{}) {
				t.Errorf("Decode of %X: %v, %v", b, text, fault)
			}
			return
		}
		if text.Enc != enc || text.Mark != mark || !utf8.ValidString(text.S) {
			t.Errorf("Decode of %X: %v", b, text)
		}
		if !bytes.Equal(Encode(enc, text.S), b[mark:]) || Size(enc, text.S) != len(b)-mark {
			t.Errorf("Encode of what %X says: %X", b, Encode(enc, text.S))
		}
	})
}
