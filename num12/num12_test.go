package num12

import (
	reference "math/big"
	"regexp"
	"strings"
	"testing"
	"unsafe"

	"targum/api"
	"targum/dec"
	"targum/float11"
	"targum/int11"
)

// The chapter's forms of whole numbers, and of decimals.
var (
	ofTen     = regexp.MustCompile(`\A[+-]?[0-9]+\z`)
	ofEight   = regexp.MustCompile(`\A0o[0-7]+\z`)
	ofSixteen = regexp.MustCompile(`\A0x[0-9a-fA-F]+\z`)
	ofPoints  = regexp.MustCompile(`\A([+-]?)(?:()\.([0-9]+)|([0-9]+)(?:\.([0-9]*))?)(?:[eE]([+-]?[0-9]+))?\z`)
	ofInf     = regexp.MustCompile(`\A([+-]?)\.(?:inf|Inf|INF)\z`)
	ofNan     = regexp.MustCompile(`\A\.(?:nan|NaN|NAN)\z`)
)

// Texts of every form, at the edges of each.
var written = []string{"0", "-0", "+00", "9", "-10", "+0190", "0o0", "0o7", "0o0170", "0x0", "0xF", "0x0aF9f", "0.", "-1.", "+.5", ".0", "-9.05", "1e3", "0E0", "-1e+02", "+10E-7", "1.e5", "1.5e-0", ".5E9", "-.05e+10", ".inf", "-.Inf", "+.INF", ".nan", ".NaN", ".NAN"}

// texts makes every text of at most n of the signs.
func texts(n int, signs string) []string {
	all, last := []string{""}, []string{""}
	for range n {
		var longer []string
		for _, s := range last {
			for i := range len(signs) {
				longer = append(longer, s+signs[i:i+1])
			}
		}
		all, last = append(all, longer...), longer
	}
	return all
}

func number(t *testing.T, digits string, base int) *reference.Int {
	t.Helper()
	n, ok := new(reference.Int).SetString(digits, base)
	if !ok {
		t.Fatalf("%q is no number of base %d", digits, base)
	}
	return n
}

// slowInt reads a whole number by the chapter's forms and the library's numbers.
func slowInt(t *testing.T, s string) (string, bool) {
	t.Helper()
	switch {
	case ofTen.MatchString(s):
		return number(t, s, 10).String(), true
	case ofEight.MatchString(s):
		return number(t, s[2:], 8).String(), true
	case ofSixteen.MatchString(s):
		return number(t, s[2:], 16).String(), true
	}
	return "", false
}

// slowFloat reads a decimal likewise, and takes nought by nought away.
func slowFloat(t *testing.T, s string) (api.Dec, bool) {
	t.Helper()
	if _, ok := slowInt(t, s); ok {
		return api.Dec{}, false
	}
	if sign := ofInf.FindStringSubmatch(s); sign != nil {
		return api.Dec{Kind: api.Inf, Neg: sign[1] == "-"}, true
	}
	if ofNan.MatchString(s) {
		return api.Dec{Kind: api.Nan}, true
	}
	parts := ofPoints.FindStringSubmatch(s)
	if parts == nil {
		return api.Dec{}, false
	}
	neg, frac := parts[1] == "-", parts[3]+parts[5]
	digits := number(t, parts[2]+parts[4]+frac, 10).String()
	if digits == "0" {
		return api.Dec{Neg: neg, Digits: "0", Exp: "0"}, true
	}
	exp := new(reference.Int)
	if parts[6] != "" {
		exp = number(t, parts[6], 10)
	}
	exp.Sub(exp, reference.NewInt(int64(len(frac))))
	for strings.HasSuffix(digits, "0") {
		digits = strings.TrimSuffix(digits, "0")
		exp.Add(exp, reference.NewInt(1))
	}
	return api.Dec{Neg: neg, Digits: digits, Exp: exp.String()}, true
}

// check holds both calls against the chapter's forms and the library, and what dec prints against its number.
func check(t *testing.T, s string) {
	t.Helper()
	n, whole := Int(s)
	if want, ok := slowInt(t, s); n != want || whole != ok {
		t.Fatalf("P8.1: Int(%q) = %q, %v, want %q, %v", s, n, whole, want, ok)
	}
	d, ok := Float(s)
	if want, is := slowFloat(t, s); d != want || ok != is {
		t.Fatalf("P8.2: Float(%q) = %+v, %v, want %+v, %v", s, d, ok, want, is)
	}
	if whole && ok {
		t.Fatalf("P8.2: %q is a whole number and a decimal", s)
	}
	if ok {
		checkPrinted(t, d)
	}
}

// checkPrinted asks whether the text of a decimal says that decimal here, and no whole number.
func checkPrinted(t *testing.T, d api.Dec) {
	t.Helper()
	text := dec.Print(d)
	if text == "" {
		t.Fatalf("P8.2: %+v may not be", d)
	}
	if back, ok := Float(text); back != d || !ok {
		t.Fatalf("P8.3: Float(%q) = %+v, %v, want %+v", text, back, ok, d)
	}
	if n, ok := Int(text); n != "" || ok {
		t.Fatalf("P8.3: Int(%q) = %q, %v", text, n, ok)
	}
}

func finite(neg bool, digits, exp string) api.Dec {
	return api.Dec{Neg: neg, Digits: digits, Exp: exp}
}

func TestWholeNumbers(t *testing.T) {
	for _, c := range [][2]string{
		{"0", "0"},
		{"-0", "0"},
		{"+0", "0"},
		{"00", "0"},
		{"-000", "0"},
		{"1", "1"},
		{"9", "9"},
		{"-9", "-9"},
		{"+9", "9"},
		{"10", "10"},
		{"010", "10"},
		{"-010", "-10"},
		{"+010", "10"},
		{"08", "8"},
		{"09", "9"},
		{"1234567890", "1234567890"},
		{"-0987654321", "-987654321"},
		{"9223372036854775808", "9223372036854775808"},
		{"-18446744073709551616", "-18446744073709551616"},
		{"0o0", "0"},
		{"0o7", "7"},
		{"0o00", "0"},
		{"0o10", "8"},
		{"0o0017", "15"},
		{"0o01234567", "342391"},
		{"0o2000000000000000000000", "18446744073709551616"},
		{"0x0", "0"},
		{"0x00", "0"},
		{"0x9", "9"},
		{"0xa", "10"},
		{"0xF", "15"},
		{"0xfF", "255"},
		{"0x0010", "16"},
		{"0xabcdef", "11259375"},
		{"0xABCDEF", "11259375"},
		{"0x0123456789", "4886718345"},
		{"0xe1", "225"},
		{"0x1e3", "483"},
		{"0x0b1", "177"},
		{"0x10000000000000000", "18446744073709551616"},
	} {
		if n, ok := Int(c[0]); n != c[1] || !ok {
			t.Errorf("P8.1: Int(%q) = %q, %v, want %q", c[0], n, ok, c[1])
		}
		if d, ok := Float(c[0]); d != (api.Dec{}) || ok {
			t.Errorf("P8.2: Float(%q) = %+v, %v, and Int says one", c[0], d, ok)
		}
		check(t, c[0])
	}
}

func TestDecimals(t *testing.T) {
	for _, c := range []struct {
		s string
		d api.Dec
	}{
		{"1.", finite(false, "1", "0")},
		{"+1.", finite(false, "1", "0")},
		{"-1.", finite(true, "1", "0")},
		{"1.0", finite(false, "1", "0")},
		{"1.5", finite(false, "15", "-1")},
		{"1.50", finite(false, "15", "-1")},
		{"007.25", finite(false, "725", "-2")},
		{"08.9", finite(false, "89", "-1")},
		{"100.", finite(false, "1", "2")},
		{"100.00", finite(false, "1", "2")},
		{"0.001", finite(false, "1", "-3")},
		{"1234567890.0987654321", finite(false, "12345678900987654321", "-10")},
		{"0.", finite(false, "0", "0")},
		{"-0.", finite(true, "0", "0")},
		{"+0.0", finite(false, "0", "0")},
		{"-00.00", finite(true, "0", "0")},
		{".5", finite(false, "5", "-1")},
		{"+.5", finite(false, "5", "-1")},
		{"-.5", finite(true, "5", "-1")},
		{".50", finite(false, "5", "-1")},
		{".005", finite(false, "5", "-3")},
		{".0", finite(false, "0", "0")},
		{"-.0", finite(true, "0", "0")},
		{"1e3", finite(false, "1", "3")},
		{"1E3", finite(false, "1", "3")},
		{"1e+3", finite(false, "1", "3")},
		{"1e-3", finite(false, "1", "-3")},
		{"-1e3", finite(true, "1", "3")},
		{"+1e3", finite(false, "1", "3")},
		{"10e3", finite(false, "1", "4")},
		{"010e3", finite(false, "1", "4")},
		{"1e0", finite(false, "1", "0")},
		{"1e-0", finite(false, "1", "0")},
		{"1e00", finite(false, "1", "0")},
		{"1e003", finite(false, "1", "3")},
		{"1e-0010", finite(false, "1", "-10")},
		{"1e+0010", finite(false, "1", "10")},
		{"0e0", finite(false, "0", "0")},
		{"0e5", finite(false, "0", "0")},
		{"-0e-5", finite(true, "0", "0")},
		{"1.e5", finite(false, "1", "5")},
		{"1.E-5", finite(false, "1", "-5")},
		{"1.5e2", finite(false, "15", "1")},
		{"1.5e+1", finite(false, "15", "0")},
		{"-1.5E-2", finite(true, "15", "-3")},
		{".5e1", finite(false, "5", "0")},
		{".5E-1", finite(false, "5", "-2")},
		{"-.05e+02", finite(true, "5", "0")},
		{"0.0e9", finite(false, "0", "0")},
		{"1e123456789012345678901234567890", finite(false, "1", "123456789012345678901234567890")},
		{".1e-123456789012345678901234567890", finite(false, "1", "-123456789012345678901234567891")},
		{".inf", api.Dec{Kind: api.Inf}},
		{".Inf", api.Dec{Kind: api.Inf}},
		{".INF", api.Dec{Kind: api.Inf}},
		{"+.inf", api.Dec{Kind: api.Inf}},
		{"+.Inf", api.Dec{Kind: api.Inf}},
		{"+.INF", api.Dec{Kind: api.Inf}},
		{"-.inf", api.Dec{Kind: api.Inf, Neg: true}},
		{"-.Inf", api.Dec{Kind: api.Inf, Neg: true}},
		{"-.INF", api.Dec{Kind: api.Inf, Neg: true}},
		{".nan", api.Dec{Kind: api.Nan}},
		{".NaN", api.Dec{Kind: api.Nan}},
		{".NAN", api.Dec{Kind: api.Nan}},
	} {
		if d, ok := Float(c.s); d != c.d || !ok {
			t.Errorf("P8.2: Float(%q) = %+v, %v, want %+v", c.s, d, ok, c.d)
		}
		if n, ok := Int(c.s); n != "" || ok {
			t.Errorf("P8.1: Int(%q) = %q, %v", c.s, n, ok)
		}
		check(t, c.s)
	}
}

func TestNone(t *testing.T) {
	for _, s := range []string{
		"", "+", "-", "++", "--", "+-", ".", "+.", "-.", "..", "e", "E", "e1", "-e1", ".e", ".e1", "-.e+1", "+e-1",
		"++1", "--1", "+-1", "-+1", "1-", "1+", "0-1", "- 1", "1-1", "++1.5", "--1.5", "+-.5", "1.5-", "1-.5", "1.-5", ".-5", ".+5", "- 1.5",
		"-0x1", "+0x1", "-0o7", "+0o7", "0o", "0x", "-0o", "-0x", "0o8", "0o9", "0o18", "0o7a", "0oa", "0xg", "0xfg", "0xG", "0X1", "0O7", "00o7", "00x1", "o7", "x1", "0o-7", "0x-1", "0o+7", "0x+1", "0o 7", "0x 1", "0o0o7", "0x0x1", "0o0x1", "1o7", "1x1", "0o_7", "0x_f", "0o7_", "0xf_", "0x1_0", "0o1_0", "0o7.", "0x1.", "0x1.5", "0o7.5", "0x.5", "0o7e1", "0x1e+3", "0x1p3", "0o1:30",
		"0b1", "-0b1", "0b", "0B1", "0d1", "1_0", "1_", "_1", "0_7", "-1_0", "1_0.5", "1._5", "1.5_", "._5", ".5_0", "_.5", "1_.", "1_e3", "1e_3", "1e3_", "1e1_0", "1.5e1_0",
		"1:30", "-1:30", "190:20:30", "1:30.", "1:30.5", "1:30e1", ":30", "1:",
		"1e", "1E", "1e+", "1e-", "1.e", "1.5e", "1.5e+", ".5e", ".5e-", "1ee1", "1eE1", "1e1e1", "1e+1e1", "1e++1", "1e+-1", "1e-+1", "1e1+", "1e1.", "1e1.5", "1e.5", "1e+.5", "1e 1", "1e+ 1", "1 e1", "1f1", "1e5x", "1ex5", "1e0x1", "1e0o7", "1d3",
		"1..", "..1", "1..5", ".5.", ".5.5", "1.5.2", "1.2.3", "1,5", "1.,5", "1.x", "x.5", ".x", ".5x", "1x", "a", "f", "1a", "1.a", "0a", "ff",
		".iNf", ".InF", ".iNF", ".inF", ".INf", ".IN", ".in", ".i", ".infinity", ".inf.", "..inf", "inf", "Inf", "INF", "-inf", "+inf", "+-.inf", "--.inf", "- .inf", ".inf ", " .inf", "0.inf", "1.inf", ".inf0", ".inf_", "._inf", ".infe1", ".inf\x00",
		".nAn", ".Nan", ".nAN", ".NAn", ".naN", ".nanx", ".na", ".n", "..nan", "nan", "NaN", "-.nan", "+.nan", "-.NaN", "+.NaN", "-.NAN", "+.NAN", "0.nan", ".nan ", " .nan", ".nan0", ".nan\x00",
		" 1", "1 ", "\t1", "1\t", "1\n", "\n1", "1\r", "1 0", " 1.5", "1.5 ", "1.5\n", "\n.5", "1. 5", "1 .5", " 0o7", "0o7 ", "0xf\n", "1e3 ", "\uFEFF1",
		"\x00", "1\x00", "\x001", "1\x000", "0\x00", "0o7\x00", "0xf\x00", "1.5\x00", "1e3\x00", "\xB1", "1\xFF", "1\xAE5", "1\xC5\xB33", "\u0661", "1\u0661", "\uFF11", "\u22121", "1\uFF0E5", "1.\u0665", "1e\u22121", "1e\u0661", "0o\u0667", "0x\uFF21", "\u00B2", "\u00BD",
		"yes", "true", "null", "~", "2001-12-14", "1/2", "1%", "$1", "#1", "1,000", "'1'", "\"1\"",
	} {
		if n, ok := Int(s); n != "" || ok {
			t.Errorf("P8.1: Int(%q) = %q, %v", s, n, ok)
		}
		if d, ok := Float(s); d != (api.Dec{}) || ok {
			t.Errorf("P8.2: Float(%q) = %+v, %v", s, d, ok)
		}
		check(t, s)
	}
}

// Every short text of the signs at which the machines turn.
func TestShortTexts(t *testing.T) {
	for _, s := range texts(6, "-+019.eE") {
		check(t, s)
	}
	for _, s := range texts(6, "+0178ox") {
		check(t, s)
	}
	for _, s := range texts(4, "-+0789_.:eEoOxXabfFgG ") {
		check(t, s)
	}
	for _, s := range texts(5, "-.infaN") {
		check(t, s)
	}
}

// Every short text behind a head that leads into each state.
func TestShortTextsBehindHeads(t *testing.T) {
	for _, head := range []string{"10", "-1.", "+00", ".5", "-.", "1e", "+1.5e", "1e+", "1.E-", ".5e+0", "-.0E1", "0o", "0o17", "0x", "0xfe", "-0o", "+0x", ".in", "-.in", ".na", "-.na"} {
		for _, s := range texts(4, "-+078.eEfnxo_:") {
			check(t, head+s)
		}
	}
}

// Every way of great and small letters, with every sign.
func TestLettersOfWords(t *testing.T) {
	for _, sign := range []string{"", "+", "-"} {
		for _, first := range "iInN" {
			for _, second := range "nNaA" {
				for _, third := range "fFnN" {
					check(t, sign+"."+string([]rune{first, second, third}))
				}
			}
		}
	}
}

// Every byte, alone, doubled, and in the place of, ahead of and behind each byte of texts that are numbers.
func TestEveryByte(t *testing.T) {
	for b := range 256 {
		sign := string([]byte{byte(b)})
		check(t, sign)
		check(t, sign+sign)
		for _, s := range written {
			for i := range len(s) {
				check(t, s[:i]+sign+s[i+1:])
				check(t, s[:i]+sign+s[i:])
			}
			check(t, s+sign)
			check(t, s+sign+sign)
		}
	}
}

// One byte is gone, or the text is cut off.
func TestCutTexts(t *testing.T) {
	for _, s := range written {
		_, whole := Int(s)
		if _, ok := Float(s); whole == ok {
			t.Errorf("P8.1, P8.2: %q: Int %v, Float %v", s, whole, ok)
		}
		for i := range len(s) {
			check(t, s[:i])
			check(t, s[i:])
			check(t, s[:i]+s[i+1:])
		}
	}
}

// Numbers that no machine number holds, with noughts ahead and behind.
func TestLongNumbers(t *testing.T) {
	for _, count := range []int{15, 16, 17, 31, 32, 33, 63, 64, 65, 100, 1000} {
		for _, digits := range []string{"1", "0", "01", "90", "7", "f", "0aF9"} {
			row := strings.Repeat(digits, count)
			for _, c := range [][2]string{{"", ""}, {"-", ""}, {"+0", ""}, {"0o", ""}, {"0x", ""}, {"0o", "8"}, {"0x", "g"}, {"7", "."}, {"-0", ".5"}, {"1.", ""}, {".", ""}, {"-.", "7"}, {"1e", ""}, {"1.5e+", ""}, {".5e-", ""}, {"-1.5E-", "1"}, {"1.", "e10"}, {"", "e1"}, {".", "E-0"}} {
				check(t, c[0]+row+c[1])
			}
		}
	}
}

// Digits to eight and to sixteen say what decimal digits say.
func TestBases(t *testing.T) {
	for n := range int64(5_000) {
		whole := reference.NewInt(n*n*n*n + n)
		for head, base := range map[string]int{"": 10, "0o": 8, "0x": 16} {
			for _, noughts := range []string{"", "0", "000"} {
				s := head + noughts + whole.Text(base)
				if got, ok := Int(s); got != whole.String() || !ok {
					t.Fatalf("P8.1: Int(%q) = %q, %v, want %v", s, got, ok, whole)
				}
			}
		}
	}
}

// Powers that lead over nought in both ways, and over every length of a machine number.
func TestPowers(t *testing.T) {
	for _, digits := range []string{"0", "1", "100", "0.", "1.", "100.00", "1.5", "0.001", "-0.0010", ".5", "-.005", ".000"} {
		for _, sign := range []string{"", "+", "-"} {
			for _, power := range []string{"0", "00", "1", "01", "2", "3", "4", "9", "10", "11", "99", "100", "9999999", "10000000", "1099511627776", "1099511627777", "9223372036854775807", "9223372036854775808", "18446744073709551616", "0018446744073709551616", "99999999999999999999"} {
				check(t, digits+"e"+sign+power)
				check(t, digits+"E"+sign+power)
			}
		}
	}
}

// A + changes nothing and a - the sign alone, where one may stand: not ahead of a base, nor of what is no number.
func TestSigns(t *testing.T) {
	for _, s := range append(texts(5, "0189.eox"), written...) {
		if strings.HasPrefix(s, "-") || strings.HasPrefix(s, "+") {
			continue
		}
		bare := strings.HasPrefix(s, "0o") || strings.HasPrefix(s, "0x") || ofNan.MatchString(s)
		n, whole := Int(s)
		d, ok := Float(s)
		whole, ok = whole && !bare, ok && !bare
		for _, sign := range []string{"+", "-"} {
			wantN, wantD := "", api.Dec{}
			if whole {
				wantN = n
			}
			if whole && sign == "-" && n != "0" {
				wantN = "-" + n
			}
			if ok {
				wantD = d
				wantD.Neg = sign == "-"
			}
			if got, is := Int(sign + s); got != wantN || is != whole {
				t.Fatalf("P8.1: Int(%q) = %q, %v, want %q, %v", sign+s, got, is, wantN, whole)
			}
			if got, is := Float(sign + s); got != wantD || is != ok {
				t.Fatalf("P8.2: Float(%q) = %+v, %v, want %+v, %v", sign+s, got, is, wantD, ok)
			}
		}
	}
}

// A whole number to ten with a point behind it, or a power of ten, is a decimal, and says the same.
func TestPointsBehindWholeNumbers(t *testing.T) {
	for _, s := range texts(5, "-+0159") {
		n, whole := Int(s)
		if !whole {
			continue
		}
		want, _ := dec.Make(strings.HasPrefix(s, "-"), strings.TrimPrefix(n, "-"), "", "0")
		for _, behind := range []string{".", ".0", "e0", ".e-0", ".00E+00"} {
			if d, ok := Float(s + behind); d != want || !ok {
				t.Fatalf("P8.2: Float(%q) = %+v, %v, want %+v", s+behind, d, ok, want)
			}
		}
	}
}

// Every decimal that may be, of short digits and of powers of all lengths, is here what dec prints of it.
func TestPrintedDecimals(t *testing.T) {
	powers := []string{"0", "1", "-1", "9", "-9", "10", "-10", "99", "-100", "1099511627776", "-9223372036854775808", "18446744073709551616", "-" + strings.Repeat("9", 100)}
	for _, digits := range append(texts(4, "0159")[1:], strings.Repeat("7", 100), "1"+strings.Repeat("0", 100)+"1") {
		for _, exp := range powers {
			for _, neg := range []bool{false, true} {
				d, ok := dec.Make(neg, digits, "", exp)
				if !ok {
					t.Fatalf("P8.3: no decimal of %q and %q", digits, exp)
				}
				checkPrinted(t, d)
			}
		}
	}
	for _, d := range []api.Dec{finite(false, "0", "0"), finite(true, "0", "0"), {Kind: api.Inf}, {Kind: api.Inf, Neg: true}, {Kind: api.Nan}} {
		checkPrinted(t, d)
	}
}

// What big writes is a whole number here, and that one; and numbers of the old schema, printed, are here what they were.
func TestNumbersOfTheOldSchema(t *testing.T) {
	for _, s := range texts(5, "-+0159_.:e") {
		if n, ok := int11.Of(s); ok {
			if back, is := Int(n); back != n || !is {
				t.Fatalf("P8.1: Int(%q) = %q, %v", n, back, is)
			}
		}
		if d, ok := float11.Of(s); ok {
			checkPrinted(t, d)
		}
	}
}

// An answer is new memory, even where it is what was handed in.
func TestAnswersAreNew(t *testing.T) {
	long := strings.Repeat("9", 100)
	for _, s := range []string{long, "-" + long, "+" + long, "0" + long} {
		n, ok := Int(s)
		if !ok || len(n) < len(long) {
			t.Errorf("P8.1: Int(%q) = %q, %v", s, n, ok)
		}
		for i := range len(s) {
			if unsafe.StringData(n) == unsafe.StringData(s[i:]) {
				t.Errorf("Int(%q) shares the argument's memory", s)
			}
		}
	}
	for _, s := range []string{long + ".", "." + long, long + "." + long, long + "e1", "-" + long + "e" + long, "-" + long + ".e-" + long, "1." + long + "e+" + long, "1e" + long} {
		d, ok := Float(s)
		if !ok || len(d.Digits)+len(d.Exp) < len(long) {
			t.Errorf("P8.2: Float(%q) = %+v, %v", s, d, ok)
		}
		for i := range len(s) {
			at := unsafe.StringData(s[i:])
			if unsafe.StringData(d.Digits) == at || unsafe.StringData(d.Exp) == at {
				t.Errorf("Float(%q) shares the argument's memory", s)
			}
		}
	}
}

// Long texts are read without the stack, and in time.
func TestVeryLongTexts(t *testing.T) {
	const length = 1_000_000
	ones, noughts := strings.Repeat("1", length), strings.Repeat("0", length)
	for _, c := range []struct {
		s, n string
		d    api.Dec
	}{
		{ones, ones, api.Dec{}},
		{"-" + ones, "-" + ones, api.Dec{}},
		{"+" + noughts + "7", "7", api.Dec{}},
		{"-" + noughts, "0", api.Dec{}},
		{"0o" + noughts + "17", "15", api.Dec{}},
		{"0x" + noughts + "fF", "255", api.Dec{}},
		{noughts + "1." + noughts, "", finite(false, "1", "0")},
		{"-" + ones + "." + ones, "", finite(true, ones+ones, "-1000000")},
		{"1" + noughts + "e0", "", finite(false, "1", "1000000")},
		{"." + noughts + "1", "", finite(false, "1", "-1000001")},
		{"1." + noughts + "e" + ones, "", finite(false, "1", ones)},
		{"0.1e-" + noughts + "1", "", finite(false, "1", "-2")},
		{noughts + "." + noughts + "e-" + ones, "", finite(false, "0", "0")},
		{ones + "x", "", api.Dec{}},
		{"0o" + ones + "8", "", api.Dec{}},
		{"0x" + ones + "g", "", api.Dec{}},
		{"-0x" + ones, "", api.Dec{}},
		{ones + ".x", "", api.Dec{}},
		{ones + "e", "", api.Dec{}},
		{"1e" + ones + "_", "", api.Dec{}},
	} {
		if n, ok := Int(c.s); n != c.n || ok != (c.n != "") {
			t.Errorf("P8.1: %q..: another whole number, %v", c.s[:3], ok)
		}
		if d, ok := Float(c.s); d != c.d || ok != (c.d != api.Dec{}) {
			t.Errorf("P8.2: %q..: another decimal, %v", c.s[:3], ok)
		}
	}
	check(t, "0o"+strings.Repeat("0172", 3_000))
	check(t, "0x"+strings.Repeat("0fA9", 3_000))
}

func FuzzNumbers(f *testing.F) {
	for _, s := range written {
		f.Add(s)
	}
	f.Add("-0x1")
	f.Add("1e+")
	f.Fuzz(check)
}
