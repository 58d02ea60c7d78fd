package brk

import (
	"math"
	"slices"
	"strings"
	"testing"
	"unicode/utf8"

	"targum/api"
)

// versions holds numbers that count as V12 beside the two versions.
var versions = []int{api.V11, api.V12, 0, 1, -1, 10, 13, -api.V11, api.V11 + 1<<32, math.MaxInt, math.MinInt}

// outside holds places that are no byte's place in a text of n bytes.
func outside(n int) []int {
	return []int{-1, -2, n, n + 1, math.MaxInt, math.MaxInt - 1, math.MinInt, math.MinInt + 1, math.MaxInt32, 1 << 32}
}

// breaks is the chapter's list of breaks, the longer ones first.
func breaks(v int) []string {
	if v == api.V11 {
		return []string{"\r\n", "\r", "\n", "\u0085", "\u2028", "\u2029"}
	}
	return []string{"\r\n", "\r", "\n"}
}

// slowBreak finds a break by the chapter's list.
func slowBreak(v int, s string, i int) int {
	if i < 0 || i >= len(s) {
		return 0
	}
	for _, b := range breaks(v) {
		if strings.HasPrefix(s[i:], b) {
			return len(b)
		}
	}
	return 0
}

// slowLines writes P2.3 down a line at a time: each one from its beginning to its first break.
func slowLines(v int, s string) []api.Line {
	var out []api.Line
	for at := 0; at < len(s); {
		end := at
		for end < len(s) && slowBreak(v, s, end) == 0 {
			end++
		}
		next := end + slowBreak(v, s, end)
		out = append(out, api.Line{At: at, End: end, Next: next})
		at = next
	}
	return out
}

// texts makes every text of at most n of the parts, one behind the other.
func texts(n int, parts ...string) []string {
	all, last := []string{""}, []string{""}
	for range n {
		var longer []string
		for _, s := range last {
			for _, p := range parts {
				longer = append(longer, s+p)
			}
		}
		all, last = append(all, longer...), longer
	}
	return all
}

// Parts of breaks that are none alone, and scalars beside those that break.
var breakParts = []string{"\r", "\n", "\u0085", "\u2028", "\u2029", "a", " ", "\xC2", "\xE2", "\x80", "\x85", "\xA8", "\u2027", "\u202A", "\u0084", "\u0086"}

func TestBreakTable(t *testing.T) {
	for _, c := range []struct {
		s        string
		i        int
		old, new int
	}{
		{"a\u0085", 1, 2, 0},
		{"\n", 0, 1, 1},
		{"\r", 0, 1, 1},
		{"\r\n", 0, 2, 2},
		{"\r\n", 1, 1, 1},
		{"\n\r", 0, 1, 1},
		{"\r\r\n", 0, 1, 1},
		{"\r\r\n", 1, 2, 2},
		{"\ra", 0, 1, 1},
		{"\r\u0085", 0, 1, 1},
		{"\r\u0085", 1, 2, 0},
		{"\u0085\n", 0, 2, 0},
		{"\u2028", 0, 3, 0},
		{"\u2029", 0, 3, 0},
		{"\u2028\u2029", 3, 3, 0},
		{"\u0085", 1, 0, 0},
		{"\u2028", 1, 0, 0},
		{"\u2028", 2, 0, 0},
		{"\u2027", 0, 0, 0},
		{"\u202A", 0, 0, 0},
		{"\u0084", 0, 0, 0},
		{"\u0086", 0, 0, 0},
		{"\u00E2", 0, 0, 0},
		{"\xC2", 0, 0, 0},
		{"\xE2\x80", 0, 0, 0},
		{"\xE2", 0, 0, 0},
		{"\x85", 0, 0, 0},
		{"\x0B", 0, 0, 0},
		{"\x0C", 0, 0, 0},
		{"\x1E", 0, 0, 0},
		{"ab", 0, 0, 0},
		{"", 0, 0, 0},
	} {
		for _, v := range versions {
			want := c.new
			if v == api.V11 {
				want = c.old
			}
			if n := Break(v, c.s, c.i); n != want {
				t.Errorf("P2.1: Break(%d, %q, %d) = %d, want %d", v, c.s, c.i, n, want)
			}
		}
	}
}

func TestBreakEverywhere(t *testing.T) {
	for _, s := range texts(3, breakParts...) {
		for _, v := range versions[:3] {
			for i := -1; i <= len(s)+1; i++ {
				if n, want := Break(v, s, i), slowBreak(v, s, i); n != want {
					t.Fatalf("P2.1: Break(%d, %q, %d) = %d, want %d", v, s, i, n, want)
				}
			}
		}
	}
}

func TestBreakOfEveryScalar(t *testing.T) {
	for r := rune(0); r <= utf8.MaxRune; r++ {
		if r >= 0xD800 && r <= 0xDFFF {
			continue
		}
		for _, v := range versions[:2] {
			want := 0
			if slices.Contains(breaks(v), string(r)) {
				want = utf8.RuneLen(r)
			}
			if n := Break(v, string(r), 0); n != want {
				t.Fatalf("P2.1: Break(%d, %q, 0) = %d, want %d", v, r, n, want)
			}
		}
	}
}

func TestBreakOutside(t *testing.T) {
	for _, s := range []string{"", "\n", "\r\n", "\u0085", "\u2029"} {
		for _, i := range outside(len(s)) {
			for _, v := range versions {
				if n := Break(v, s, i); n != 0 {
					t.Errorf("P2.1: Break(%d, %q, %d) = %d", v, s, i, n)
				}
			}
		}
	}
}

// allowed is the chapter's list of scalars that may be, first and last of each range.
var allowed = [][2]rune{{9, 9}, {0xA, 0xA}, {0xD, 0xD}, {0x20, 0x7E}, {0x85, 0x85}, {0xA0, 0xD7FF}, {0xE000, 0xFEFE}, {0xFF00, 0xFFFD}, {0x10000, 0x10FFFF}}

func isAllowed(r rune) bool {
	return slices.ContainsFunc(allowed, func(a [2]rune) bool { return r >= a[0] && r <= a[1] })
}

func TestMayOfEveryScalar(t *testing.T) {
	for r := rune(0); r <= utf8.MaxRune; r++ {
		if r >= 0xD800 && r <= 0xDFFF {
			continue
		}
		want, check := 0, 1
		if isAllowed(r) {
			want, check = utf8.RuneLen(r), -1
		}
		s := string(r)
		if n := May(s, 0); n != want {
			t.Fatalf("P2.2: May(%q, 0) = %d, want %d", s, n, want)
		}
		if n := May("-"+s+"-", 1); n != want {
			t.Fatalf("P2.2: May of %q between others: %d, want %d", s, n, want)
		}
		if at := Check("-" + s + "-"); at != check {
			t.Fatalf("P2.2: Check of %q between others: %d, want %d", s, at, check)
		}
	}
}

// Bytes that are no scalar: alone, cut off, too long, of half a pair, above the last one.
var noScalars = []string{"\x80", "\xBF", "\x85", "\xC2", "\xC0\x80", "\xC1\xBF", "\xE2\x80", "\xE2", "\xE0\x80\x8A", "\xE0\x82\x85", "\xED\xA0\x80", "\xED\xBF\xBF", "\xF0\x9F\x98", "\xF0\x80\x80\x80", "\xF4\x90\x80\x80", "\xF5\x80\x80\x80", "\xF8\x88\x80\x80\x80", "\xFE", "\xFF", "\xFF\xFE"}

func TestMayOfNoScalar(t *testing.T) {
	for _, bad := range noScalars {
		for _, behind := range []string{"", "a", "\n", "\u00E9"} {
			s := "\uFFFD" + bad + behind
			if n := May(s, 3); n != 0 {
				t.Errorf("P2.2: May(%q, 3) = %d", s, n)
			}
			if at := Check(s); at != 3 {
				t.Errorf("P2.2: Check(%q) = %d", s, at)
			}
		}
	}
}

func TestMayWithinAScalar(t *testing.T) {
	for _, s := range []string{"\u00E9", "\u0085", "\u20AC", "\U0001F600"} {
		for i := 1; i < len(s); i++ {
			if n := May(s, i); n != 0 {
				t.Errorf("P2.2: May(%q, %d) = %d", s, i, n)
			}
		}
	}
}

func TestMayOutside(t *testing.T) {
	for _, s := range []string{"", "a", "\u00E9", "\U0001F600"} {
		for _, i := range outside(len(s)) {
			if n := May(s, i); n != 0 {
				t.Errorf("P2.2: May(%q, %d) = %d", s, i, n)
			}
		}
	}
}

func TestCheck(t *testing.T) {
	for s, want := range map[string]int{
		"":                              -1,
		"a: b\r\n\tc\u0085\u2028\u2029": -1,
		"\u00E9\u20AC\U0001F600\uFFFD":  -1,
		"\x00":                          0,
		"ab\x00\x01":                    2,
		"\u00E9\x7F":                    2,
		"\u20AC\u0080\xFF":              3,
		"\U0001F600\uFEFF":              4,
		"\U0001F600\uFFFE\uFFFF":        4,
		"a\xE2\x82":                     1,
		"a\xE2\x82\xAC\xE2\x82":         4,
		"\xFFa":                         0,
	} {
		if at := Check(s); at != want {
			t.Errorf("P2.2: Check(%q) = %d, want %d", s, at, want)
		}
	}
}

func TestLinesTable(t *testing.T) {
	for _, c := range []struct {
		v    int
		s    string
		want []api.Line
	}{
		{api.V12, "", nil},
		{api.V11, "", nil},
		{api.V12, "a\nb", []api.Line{{At: 0, End: 1, Next: 2}, {At: 2, End: 3, Next: 3}}},
		{api.V12, "a\n", []api.Line{{At: 0, End: 1, Next: 2}}},
		{api.V12, "\n", []api.Line{{At: 0, End: 0, Next: 1}}},
		{api.V12, "a", []api.Line{{At: 0, End: 1, Next: 1}}},
		{api.V12, "\r\n\n\r", []api.Line{{At: 0, End: 0, Next: 2}, {At: 2, End: 2, Next: 3}, {At: 3, End: 3, Next: 4}}},
		{api.V11, "a\u0085b\u2028\u2029", []api.Line{{At: 0, End: 1, Next: 3}, {At: 3, End: 4, Next: 7}, {At: 7, End: 7, Next: 10}}},
		{api.V12, "a\u0085b\u2028\u2029", []api.Line{{At: 0, End: 10, Next: 10}}},
		{0, "a\u0085b\u2028\n", []api.Line{{At: 0, End: 7, Next: 8}}},
		{api.V12, "\xC2\n\xE2\x80", []api.Line{{At: 0, End: 1, Next: 2}, {At: 2, End: 4, Next: 4}}},
	} {
		if got := Lines(c.v, c.s); !slices.Equal(got, c.want) {
			t.Errorf("P2.3: Lines(%d, %q) = %v, want %v", c.v, c.s, got, c.want)
		}
	}
}

func TestLinesEverywhere(t *testing.T) {
	for _, s := range texts(4, "\r", "\n", "\u0085", "\u2028", "\u2029", "a", "\xC2", "\xE2\x80") {
		for _, v := range versions[:3] {
			checkLines(t, v, s)
		}
	}
}

// checkLines holds Lines against P2.3, and P2.5: no byte is left out, none stands in two lines.
func checkLines(t *testing.T, v int, s string) {
	t.Helper()
	got := Lines(v, s)
	if want := slowLines(v, s); !slices.Equal(got, want) {
		t.Fatalf("P2.3: Lines(%d, %q) = %v, want %v", v, s, got, want)
	}
	at := 0
	for _, l := range got {
		if l.At != at || l.End < l.At || l.Next <= l.At {
			t.Fatalf("P2.5: Lines(%d, %q) = %v: %v doesn't go on at %d", v, s, got, l, at)
		}
		if n := Break(v, s, l.End); n != l.Next-l.End {
			t.Fatalf("P2.5: Lines(%d, %q) = %v: the break of %v has %d bytes", v, s, got, l, n)
		}
		at = l.Next
	}
	if at != len(s) {
		t.Fatalf("P2.5: Lines(%d, %q) = %v: ends at %d", v, s, got, at)
	}
}

func TestLinesAreNew(t *testing.T) {
	const s = "a\nb\nc\n"
	first := Lines(api.V12, s)
	want := slices.Clone(first)
	for i := range first[:cap(first)] {
		first[:cap(first)][i] = api.Line{At: -1, End: -1, Next: -1}
	}
	if got := Lines(api.V12, s); !slices.Equal(got, want) {
		t.Errorf("P2.3: a second answer hangs on the first: %v", got)
	}
}

func TestLinesOfALongText(t *testing.T) {
	const n = 1 << 18
	if got := Lines(api.V11, strings.Repeat("a\u2028", n)); len(got) != n || got[n-1] != (api.Line{At: 4*n - 4, End: 4*n - 3, Next: 4 * n}) {
		t.Errorf("P2.3: %d lines", len(got))
	}
	if got := Lines(api.V12, strings.Repeat("a\u2028", n)); len(got) != 1 || got[0] != (api.Line{At: 0, End: 4 * n, Next: 4 * n}) {
		t.Errorf("P2.3: %d lines", len(got))
	}
}

// One text as the two versions have it: its scalars may be in both, its lines are not the same.
func TestWhatBreaksDiffers(t *testing.T) {
	for _, s := range []string{"\u0085", "\u2028", "\u2029"} {
		text := "a" + s + "b"
		if Check(text) != -1 || May(text, 1) != len(s) {
			t.Errorf("P2.5: %q may not be", s)
		}
		if len(Lines(api.V11, text)) != 2 || len(Lines(api.V12, text)) != 1 {
			t.Errorf("P2.5: %q: %v, %v", s, Lines(api.V11, text), Lines(api.V12, text))
		}
	}
}

func TestLineTable(t *testing.T) {
	for _, c := range []struct {
		line   string
		indent int
		blank  bool
		marker int
	}{
		{"", 0, true, 0},
		{" ", 1, true, 0},
		{"\t", 0, true, 0},
		{" \t ", 1, true, 0},
		{"\t  ", 0, true, 0},
		{"    ", 4, true, 0},
		{"a", 0, false, 0},
		{"  a  ", 2, false, 0},
		{" \ta", 1, false, 0},
		{"   \t  a", 3, false, 0},
		{"a   ", 0, false, 0},
		{"\u00A0", 0, false, 0},
		{" \u00A0", 1, false, 0},
		{"\u2003", 0, false, 0},
		{"\u3000", 0, false, 0},
		{"\x0B", 0, false, 0},
		{"\x0C", 0, false, 0},
		{"\x00", 0, false, 0},
		{"\xFF", 0, false, 0},
		{"-", 0, false, 0},
		{"--", 0, false, 0},
		{"-- ", 0, false, 0},
		{"-- -", 0, false, 0},
		{"---", 0, false, 1},
		{"--- ", 0, false, 1},
		{"---\t", 0, false, 1},
		{"--- a", 0, false, 1},
		{"---\ta", 0, false, 1},
		{"--- ---", 0, false, 1},
		{"---a", 0, false, 0},
		{"----", 0, false, 0},
		{"---.", 0, false, 0},
		{"---\x00", 0, false, 0},
		{"---\x0B", 0, false, 0},
		{"---\u00A0", 0, false, 0},
		{" ---", 1, false, 0},
		{"\t---", 0, false, 0},
		{".", 0, false, 0},
		{"..", 0, false, 0},
		{".. ", 0, false, 0},
		{"...", 0, false, 2},
		{"... ", 0, false, 2},
		{"...\t", 0, false, 2},
		{"... #", 0, false, 2},
		{"...a", 0, false, 0},
		{"....", 0, false, 0},
		{"...-", 0, false, 0},
		{" ...", 1, false, 0},
		{"..-", 0, false, 0},
		{"--.", 0, false, 0},
		{"-..", 0, false, 0},
		{".--", 0, false, 0},
		{"   a", 3, false, 0},
	} {
		for _, around := range [][2]string{{"", ""}, {"", "\n"}, {"x\n", "\n--- \n"}, {"\r", "\r\n"}, {"  \n", "\n"}} {
			s := around[0] + c.line + around[1]
			l := api.Line{At: len(around[0]), End: len(around[0]) + len(c.line)}
			l.Next = l.End + Break(api.V12, s, l.End)
			checkLine(t, s, l, c.indent, c.blank, c.marker)
		}
	}
}

func checkLine(t *testing.T, s string, l api.Line, indent int, blank bool, marker int) {
	t.Helper()
	if n := Indent(s, l); n != indent {
		t.Errorf("P2.4: Indent(%q, %v) = %d, want %d", s, l, n, indent)
	}
	if is := Blank(s, l); is != blank {
		t.Errorf("P2.4: Blank(%q, %v) = %v, want %v", s, l, is, blank)
	}
	if n := Marker(s, l); n != marker {
		t.Errorf("P2.4: Marker(%q, %v) = %d, want %d", s, l, n, marker)
	}
}

func TestMarkerByVersion(t *testing.T) {
	for _, s := range []string{"---\u0085", "---\u2028a", "---\u2029"} {
		if n := Marker(s, Lines(api.V11, s)[0]); n != 1 {
			t.Errorf("P2.4: Marker of %q as V11: %d", s, n)
		}
		if n := Marker(s, Lines(api.V12, s)[0]); n != 0 {
			t.Errorf("P2.4: Marker of %q as V12: %d", s, n)
		}
	}
}

func TestPiecesThatAreNoLines(t *testing.T) {
	const s = "x  ---\n  ... y"
	checkLine(t, s, api.Line{At: 1, End: 3, Next: 3}, 2, true, 0)
	checkLine(t, s, api.Line{At: 1, End: 2, Next: 14}, 1, true, 0)
	checkLine(t, s, api.Line{At: 3, End: 6, Next: 6}, 0, false, 1)
	checkLine(t, s, api.Line{At: 3, End: 5, Next: 6}, 0, false, 0)
	checkLine(t, s, api.Line{At: 3, End: 7, Next: 7}, 0, false, 0)
	checkLine(t, s, api.Line{At: 6, End: 9, Next: 9}, 0, false, 0)
	checkLine(t, s, api.Line{At: 9, End: 12, Next: 14}, 0, false, 2)
	checkLine(t, s, api.Line{At: 9, End: 13, Next: 13}, 0, false, 2)
	checkLine(t, s, api.Line{At: 14, End: 14, Next: 14}, 0, true, 0)
	checkLine(t, s, api.Line{At: 0, End: 0, Next: 0}, 0, true, 0)
	checkLine(t, s, api.Line{At: 5, End: 5, Next: 5}, 0, true, 0)
}

func TestNoLines(t *testing.T) {
	for _, s := range []string{"", " ", "    ", "---", "... a"} {
		places := []int{math.MinInt, -1, 0, 1, 2, len(s) - 1, len(s), len(s) + 1, 1 << 32, math.MaxInt}
		for _, at := range places {
			for _, end := range places {
				for _, next := range places {
					if slices.IsSorted([]int{0, at, end, next, len(s)}) {
						continue
					}
					checkLine(t, s, api.Line{At: at, End: end, Next: next}, 0, false, 0)
				}
			}
		}
	}
}

// FuzzText holds every call against the chapter's words, written down slowly.
func FuzzText(f *testing.F) {
	for _, s := range []string{"", "a\nb", "  a\r\n\t\u0085--- \u2028...\u2029", "\xC2\x85\xE2\x80", "\uFEFF\x00"} {
		f.Add(s, 0, 0, 0, 0)
	}
	f.Fuzz(func(t *testing.T, s string, i, at, end, next int) {
		first := -1
		for k, r := range s {
			if n := utf8.RuneLen(r); !isAllowed(r) || !strings.HasPrefix(s[k:], string(r)) || n < 1 {
				first = k
				break
			}
			if n := May(s, k); n != utf8.RuneLen(r) {
				t.Fatalf("P2.2: May(%q, %d) = %d", s, k, n)
			}
		}
		if got := Check(s); got != first {
			t.Fatalf("P2.2: Check(%q) = %d, want %d", s, got, first)
		}
		for _, v := range versions[:3] {
			if got, want := Break(v, s, i), slowBreak(v, s, i); got != want {
				t.Fatalf("P2.1: Break(%d, %q, %d) = %d, want %d", v, s, i, got, want)
			}
			checkLines(t, v, s)
		}
		May(s, i)
		l := api.Line{At: at, End: end, Next: next}
		if slices.IsSorted([]int{0, at, end, next, len(s)}) {
			checkPiece(t, s, l)
		} else {
			checkLine(t, s, l, 0, false, 0)
		}
		for _, l := range Lines(api.V11, s) {
			checkPiece(t, s, l)
		}
	})
}

// checkPiece holds a piece of s against P2.4, byte by byte.
func checkPiece(t *testing.T, s string, l api.Line) {
	t.Helper()
	line := s[l.At:l.End]
	indent, blank, marker := 0, true, 0
	for indent < len(line) && line[indent] == ' ' {
		indent++
	}
	for k := range len(line) {
		blank = blank && (line[k] == ' ' || line[k] == '\t')
	}
	for _, behind := range []string{"", " ", "\t"} {
		for m, sign := range map[int]string{1: "---", 2: "..."} {
			if line == sign || behind != "" && strings.HasPrefix(line, sign+behind) {
				marker = m
			}
		}
	}
	checkLine(t, s, l, indent, blank, marker)
}
