package mark

import (
	"math"
	"math/cmplx"
	"strings"
	"testing"

	"targum/api"
	"targum/brk"
)

// versions holds numbers that count as V12 beside the two versions.
var versions = []int{api.V11, api.V12, 0, 7, -1, -api.V11, api.V11 + 1<<32, math.MaxInt, math.MinInt}

// Breaks, their cut-off parts, and scalars of one byte to four.
var parts = []string{"\r", "\n", "\u0085", "\u2028", "\u2029", "a", "\t", "\xC2", "\xE2", "\x80", "\xBF", "\xA8", "\xC0", "\xFF", "\x7F", "\u00E9", "\u20AC", "\U0001F600"}

// texts makes every text of at most n of the parts, one behind the other.
func texts(n int, parts ...string) []string {
	all, last := []string{""}, []string{""}
	for range n {
		var longer []string
		for _, s := range last {
			for _, p := range parts {
				longer = append(longer, s+p)
			}
		}
		all, last = append(all, longer...), longer
	}
	return all
}

// slowWay writes P3.1 down in whole numbers: the breaks first, then the bytes behind the last one.
func slowWay(v int, s string) (line, column int) {
	last := 0
	for _, l := range brk.Lines(v, s) {
		if l.Next > l.End {
			line++
			last = l.Next
		}
	}
	for _, b := range []byte(s[last:]) {
		if b < 0x80 || b >= 0xC0 {
			column++
		}
	}
	return line, column
}

func place(line, column int) complex128 {
	return complex(float64(line), float64(column))
}

func slowOff(v int, s string, p complex128) int {
	for off := len(s); off >= 0; off-- {
		if place(slowWay(v, s[:off])) == p {
			return off
		}
	}
	return -1
}

func TestWayTable(t *testing.T) {
	for _, c := range []struct {
		s        string
		old, new complex128
	}{
		{"", 0, 0},
		{"a", 1i, 1i},
		{"ab", 2i, 2i},
		{"a\nbc", 1 + 2i, 1 + 2i},
		{"\n", 1, 1},
		{"\r", 1, 1},
		{"\r\n", 1, 1},
		{"\n\r", 2, 2},
		{"\r\r\n\n", 3, 3},
		{"abc\n", 1, 1},
		{"\nabc", 1 + 3i, 1 + 3i},
		{"a\nb\nc\n\nd", 4 + 1i, 4 + 1i},
		{"\u00E9\u20AC\U0001F600", 3i, 3i},
		{"\u0085", 1, 1i},
		{"\u2028", 1, 1i},
		{"\u2029", 1, 1i},
		{"a\u0085b", 1 + 1i, 3i},
		{"a\u2028b\u2029cd", 2 + 2i, 6i},
		{"\u00E9\n\u2028\u00E9\u00E9", 2 + 2i, 1 + 3i},
		{"\u2027\u202A\u0084\u0086", 4i, 4i},
		{"\xC2", 1i, 1i},
		{"\xE2\x80", 1i, 1i},
		{"\x80\x85\xA8\xBF", 0, 0},
		{"\x00\x7F\xC0\xFF", 4i, 4i},
		{"\t \x0B\x0C", 4i, 4i},
	} {
		for _, v := range versions {
			want := c.new
			if v == api.V11 {
				want = c.old
			}
			if got := Way(v, c.s); got != want {
				t.Errorf("P3.1: Way(%d, %q) = %v, want %v", v, c.s, got, want)
			}
		}
	}
}

// Below 80, and from C0 on, each byte is a column; between them none is.
func TestWayOfEveryByte(t *testing.T) {
	for b := range 256 {
		want := 3i
		switch {
		case b == '\n' || b == '\r':
			want = 1 + 1i
		case b >= 0x80 && b <= 0xBF:
			want = 2i
		}
		s := "a" + string([]byte{byte(b)}) + "a"
		for _, v := range versions {
			if got := Way(v, s); got != want {
				t.Errorf("P3.1: Way(%d, %q) = %v, want %v", v, s, got, want)
			}
		}
	}
}

func TestWayEverywhere(t *testing.T) {
	for _, s := range texts(4, parts...) {
		for _, v := range versions[:3] {
			if got, want := Way(v, s), place(slowWay(v, s)); got != want {
				t.Fatalf("P3.1: Way(%d, %q) = %v, want %v", v, s, got, want)
			}
		}
	}
}

func TestGoTable(t *testing.T) {
	inf := math.Inf(1)
	for _, c := range []struct {
		p        complex128
		s        string
		old, new complex128
	}{
		{0, "", 0, 0},
		{3 + 4i, "", 3 + 4i, 3 + 4i},
		{3 + 4i, "ab", 3 + 6i, 3 + 6i},
		{3 + 4i, "a\nb", 4 + 1i, 4 + 1i},
		{3 + 4i, "\n", 4, 4},
		{3 + 4i, "\r\n\r", 5, 5},
		{3 + 4i, "\u0085", 4, 3 + 5i},
		{3 + 4i, "\u2028\u2029\u00E9", 5 + 1i, 3 + 7i},
		{3 + 4i, "\x80", 3 + 4i, 3 + 4i},
		{-2 - 5i, "\n", -1, -1},
		{-2 - 5i, "abc", -2 - 2i, -2 - 2i},
		{-1 - 5i, "\nab", 2i, 2i},
		{0.5 + 0.25i, "a", 0.5 + 1.25i, 0.5 + 1.25i},
		{0.5 + 0.25i, "\na", 1.5 + 1i, 1.5 + 1i},
		{complex(2, inf), "a", complex(2, inf), complex(2, inf)},
		{complex(2, inf), "\na", 3 + 1i, 3 + 1i},
		{complex(-inf, 2), "a", complex(-inf, 3), complex(-inf, 3)},
		{complex(-inf, 2), "\na", complex(-inf, 1), complex(-inf, 1)},
		{complex(2, math.NaN()), "\na", 3 + 1i, 3 + 1i},
	} {
		for _, v := range versions {
			want := c.new
			if v == api.V11 {
				want = c.old
			}
			if got := Go(v, c.p, c.s); got != want {
				t.Errorf("P3.2: Go(%d, %v, %q) = %v, want %v", v, c.p, c.s, got, want)
			}
		}
	}
}

// A part that is no number stays where it is.
func TestGoFromNoNumber(t *testing.T) {
	nan := math.NaN()
	if p := Go(api.V12, complex(2, nan), "a"); real(p) != 2 || !math.IsNaN(imag(p)) {
		t.Errorf("P3.2: %v", p)
	}
	if p := Go(api.V12, complex(nan, 2), "a"); !math.IsNaN(real(p)) || imag(p) != 3 {
		t.Errorf("P3.2: %v", p)
	}
	if p := Go(api.V12, complex(nan, 2), "\na"); !math.IsNaN(real(p)) || imag(p) != 1 {
		t.Errorf("P3.2: %v", p)
	}
}

func TestOfTable(t *testing.T) {
	for _, c := range []struct {
		s        string
		off      int
		old, new complex128
	}{
		{"", 0, 0, 0},
		{"", 1, 0, 0},
		{"", -1, 0, 0},
		{"a\nb", math.MinInt, 0, 0},
		{"a\nb", -1, 0, 0},
		{"a\nb", 0, 0, 0},
		{"a\nb", 1, 1i, 1i},
		{"a\nb", 2, 1, 1},
		{"a\nb", 3, 1 + 1i, 1 + 1i},
		{"a\nb", 4, 1 + 1i, 1 + 1i},
		{"a\nb", math.MaxInt, 1 + 1i, 1 + 1i},
		{"a\r\nb", 1, 1i, 1i},
		{"a\r\nb", 2, 1, 1},
		{"a\r\nb", 3, 1, 1},
		{"a\r\nb", 4, 1 + 1i, 1 + 1i},
		{"\u0085b", 1, 1i, 1i},
		{"\u0085b", 2, 1, 1i},
		{"\u0085b", 3, 1 + 1i, 2i},
		{"\u2029b", 1, 1i, 1i},
		{"\u2029b", 2, 1i, 1i},
		{"\u2029b", 3, 1, 1i},
		{"\u2029b", 4, 1 + 1i, 2i},
		{"\U0001F600", 1, 1i, 1i},
		{"\U0001F600", 3, 1i, 1i},
	} {
		for _, v := range versions {
			want := c.new
			if v == api.V11 {
				want = c.old
			}
			if got := Of(v, c.s, c.off); got != want {
				t.Errorf("P3.2: Of(%d, %q, %d) = %v, want %v", v, c.s, c.off, got, want)
			}
		}
	}
}

func TestOffTable(t *testing.T) {
	for _, c := range []struct {
		s        string
		p        complex128
		old, new int
	}{
		{"", 0, 0, 0},
		{"", 1, -1, -1},
		{"", 1i, -1, -1},
		{"ab", 0, 0, 0},
		{"ab", 1i, 1, 1},
		{"ab", 2i, 2, 2},
		{"ab", 3i, -1, -1},
		{"ab", 5i, -1, -1},
		{"ab", 1, -1, -1},
		{"ab", -1, -1, -1},
		{"ab", -1i, -1, -1},
		{"ab", 0.5i, -1, -1},
		{"ab", 0.5, -1, -1},
		{"a\nbc", 1i, 1, 1},
		{"a\nbc", 2i, -1, -1},
		{"a\nbc", 1, 2, 2},
		{"a\nbc", 1 + 2i, 4, 4},
		{"a\nbc", 1 + 3i, -1, -1},
		{"a\nbc", 2, -1, -1},
		{"a\n", 1, 2, 2},
		{"a\r\nb", 1, 3, 3},
		{"a\r\nb", 1i, 1, 1},
		{"\r\n", 1, 2, 2},
		{"\n\r", 1, 1, 1},
		{"\u00E9", 0, 0, 0},
		{"\u00E9", 1i, 2, 2},
		{"\u00E9a", 1i, 2, 2},
		{"\U0001F600a", 1i, 4, 4},
		{"\x80\x80a", 0, 2, 2},
		{"\n\x80", 1, 2, 2},
		{"\u0085", 1i, 1, 2},
		{"\u0085", 1, 2, -1},
		{"\u2028", 1i, 2, 3},
		{"\u2028", 1, 3, -1},
		{"\u2029a", 1i, 2, 3},
		{"\u2029a", 2i, -1, 4},
		{"\u2029a", 1 + 1i, 4, -1},
		{"\u2029\n", 1, 3, 4},
		{"\u2029\n", 2, 4, -1},
		{"a", cmplx.NaN(), -1, -1},
		{"a", complex(math.NaN(), 0), -1, -1},
		{"a", complex(0, math.NaN()), -1, -1},
		{"a", cmplx.Inf(), -1, -1},
		{"a", complex(math.Inf(-1), 0), -1, -1},
		{"a", complex(0, math.Inf(-1)), -1, -1},
		{"a", complex(math.Copysign(0, -1), math.Copysign(0, -1)), 0, 0},
	} {
		for _, v := range versions {
			want := c.new
			if v == api.V11 {
				want = c.old
			}
			if got := Off(v, c.s, c.p); got != want {
				t.Errorf("P3.3: Off(%d, %q, %v) = %d, want %d", v, c.s, c.p, got, want)
			}
		}
	}
}

// Of, and every place that a text has or might have, held against the chapter's words.
func TestOffEverywhere(t *testing.T) {
	for _, s := range texts(3, parts...) {
		for _, v := range versions[:3] {
			checkPlaces(t, v, s)
		}
	}
}

func checkPlaces(t *testing.T, v int, s string) {
	t.Helper()
	for off := -1; off <= len(s)+1; off++ {
		want := place(slowWay(v, s[:min(max(off, 0), len(s))]))
		if got := Of(v, s, off); got != want {
			t.Fatalf("P3.2: Of(%d, %q, %d) = %v, want %v", v, s, off, got, want)
		}
	}
	lines, _ := slowWay(v, s)
	for line := -1; line <= lines+1; line++ {
		for column := -1; column <= len(s)+1; column++ {
			p := place(line, column)
			if got, want := Off(v, s, p), slowOff(v, s, p); got != want {
				t.Fatalf("P3.3: Off(%d, %q, %v) = %d, want %d", v, s, p, got, want)
			}
		}
	}
}

func TestLess(t *testing.T) {
	inf, nan := math.Inf(1), math.NaN()
	for _, c := range []struct {
		p, q complex128
		want bool
	}{
		{0, 0, false},
		{0, 1i, true},
		{1i, 0, false},
		{0, 1, true},
		{1, 0, false},
		{1, 1i, false},
		{1i, 1, true},
		{9i, 1, true},
		{1, 9i, false},
		{1 + 1i, 1 + 2i, true},
		{1 + 2i, 1 + 2i, false},
		{1 + 2i, 1 + 1i, false},
		{2 + 9i, 3, true},
		{3, 2 + 9i, false},
		{2 + 1i, 3 + 9i, true},
		{3 + 9i, 2 + 1i, false},
		{-1, 0, true},
		{-1i, 0, true},
		{0.25, 0.5, true},
		{0.25i, 0.5i, true},
		{complex(math.Copysign(0, -1), 0), 0, false},
		{complex(math.Copysign(0, -1), 0), 1i, true},
		{complex(-inf, 5), complex(inf, 0), true},
		{complex(inf, 5), complex(-inf, 9), false},
		{complex(inf, 5), complex(inf, 9), true},
		{complex(nan, 0), complex(nan, 1), false},
		{complex(0, nan), complex(1, nan), true},
		{complex(1, nan), complex(1, 2), false},
		{complex(1, 2), complex(1, nan), false},
		{complex(nan, 0), 1, false},
		{1, complex(nan, 2), false},
	} {
		if got := Less(c.p, c.q); got != c.want {
			t.Errorf("P3.3: Less(%v, %v) = %v", c.p, c.q, got)
		}
	}
}

// partsABreak tells whether s is cut at byte i within a break: its two halves then break otherwise than it does.
func partsABreak(v int, s string, i int) bool {
	for _, l := range brk.Lines(v, s) {
		if i > l.End && i < l.Next {
			return true
		}
	}
	return false
}

func TestWaysInTurn(t *testing.T) {
	for _, s := range texts(3, parts...) {
		for _, v := range versions[:3] {
			checkWays(t, v, s)
		}
	}
}

// checkWays cuts s everywhere but within a break: P3.4.
func checkWays(t *testing.T, v int, s string) {
	t.Helper()
	for i := 0; i <= len(s); i++ {
		if partsABreak(v, s, i) {
			continue
		}
		for _, p := range []complex128{0, 2 + 7i, -1 - 3i} {
			if got, want := Go(v, Go(v, p, s[:i]), s[i:]), Go(v, p, s); got != want {
				t.Fatalf("P3.4: from %v by %q, then %q (%d): %v, in one %v", p, s[:i], s[i:], v, got, want)
			}
		}
		from := Of(v, s, i)
		for j := i; j <= len(s) && !partsABreak(v, s, j); j++ {
			to := Of(v, s, j)
			if Less(to, from) {
				t.Fatalf("P3.4: %q (%d): byte %d is at %v, byte %d at %v", s, v, i, from, j, to)
			}
			if real(to) == real(from) && to-from != Way(v, s[i:j]) {
				t.Fatalf("P3.4: %q (%d): from %v to %v leads %v", s, v, from, to, Way(v, s[i:j]))
			}
		}
	}
}

// Each call goes through a text once.
func TestLongText(t *testing.T) {
	const n = 1 << 20
	s := strings.Repeat("a\u2028", n)
	if p := Way(api.V11, s); p != n {
		t.Errorf("P3.1: %v", p)
	}
	if p := Of(api.V12, s, 4*n-3); p != complex(0, 2*n-1) {
		t.Errorf("P3.2: %v", p)
	}
	if off := Off(api.V11, s, n-1+1i); off != 4*n-3 {
		t.Errorf("P3.3: %d", off)
	}
	if off := Off(api.V11, s, n-1+2i); off != 4*n-1 {
		t.Errorf("P3.3: %d", off)
	}
	if off := Off(api.V12, s, 2i*n); off != 4*n {
		t.Errorf("P3.3: %d", off)
	}
	if off := Off(api.V12, s, 2i*n+1i); off != -1 {
		t.Errorf("P3.3: %d", off)
	}
}

func FuzzPlaces(f *testing.F) {
	for _, s := range []string{"", "a\nbc", "\r\n\r", "a\u0085b", "\u2028\xE2\x80", "\U0001F600\n"} {
		f.Add(s, 1, 0.0, 1.0)
	}
	f.Fuzz(func(t *testing.T, s string, off int, line, column float64) {
		s = s[:min(len(s), 24)]
		p := complex(line, column)
		for _, v := range versions[:3] {
			if got, want := Way(v, s), place(slowWay(v, s)); got != want {
				t.Fatalf("P3.1: Way(%d, %q) = %v, want %v", v, s, got, want)
			}
			if got, want := Of(v, s, off), place(slowWay(v, s[:min(max(off, 0), len(s))])); got != want {
				t.Fatalf("P3.2: Of(%d, %q, %d) = %v, want %v", v, s, off, got, want)
			}
			if got, want := Off(v, s, p), slowOff(v, s, p); got != want {
				t.Fatalf("P3.3: Off(%d, %q, %v) = %d, want %d", v, s, p, got, want)
			}
			checkPlaces(t, v, s)
			checkWays(t, v, s)
		}
	})
}
