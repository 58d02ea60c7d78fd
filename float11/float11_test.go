package float11

import (
	reference "math/big"
	"regexp"
	"strings"
	"testing"
	"unsafe"

	"targum/api"
	"targum/dec"
	"targum/int11"
)

// The chapter's table, a pattern a form: patterns[0] is form 1.
var patterns = []*regexp.Regexp{
	regexp.MustCompile(`\A[+-]?[0-9][0-9_]*\.[0-9_]*([eE][+-][0-9]+)?\z`),
	regexp.MustCompile(`\A[+-]?\.[0-9_]*[0-9][0-9_]*([eE][+-][0-9]+)?\z`),
	regexp.MustCompile(`\A[+-]?[0-9][0-9_]*(:([0-9]|[0-5][0-9]))+\.[0-9_]*\z`),
	regexp.MustCompile(`\A[+-]?\.(inf|Inf|INF)\z`),
	regexp.MustCompile(`\A\.(nan|NaN|NAN)\z`),
}

// Texts of every form, at the edges of each.
var written = []string{"0.", "-0.0", "+1_0._", "9.9_", "1.e+3", "-0_1.50E-02", "+7._e-0", ".5", "-._5", "+.0_", "._9_e+1", "-.05E-10", "0:1.5", "-1:9.", "+1_0:59._", "0_0:00:6.0_7", "190:20:30.15", ".inf", "-.Inf", "+.INF", ".nan", ".NaN", ".NAN"}

// texts makes every text of at most n of the signs.
func texts(n int, signs string) []string {
	all, last := []string{""}, []string{""}
	for range n {
		var longer []string
		for _, s := range last {
			for i := range len(signs) {
				longer = append(longer, s+signs[i:i+1])
			}
		}
		all, last = append(all, longer...), longer
	}
	return all
}

// slowForm tells the form that the table gives s.
func slowForm(t *testing.T, s string) int {
	t.Helper()
	form := 0
	for i, pattern := range patterns {
		if !pattern.MatchString(s) {
			continue
		}
		if form != 0 {
			t.Fatalf("%q is of the forms %d and %d", s, form, i+1)
		}
		form = i + 1
	}
	return form
}

func number(t *testing.T, digits string) *reference.Int {
	t.Helper()
	n, ok := new(reference.Int).SetString(digits, 10)
	if !ok {
		t.Fatalf("%q is no number", digits)
	}
	return n
}

// slowOf reads s of the form by the library's numbers, digit by digit of base 60, and takes nought by nought away.
func slowOf(t *testing.T, s string, form int) api.Dec {
	t.Helper()
	neg := strings.HasPrefix(s, "-")
	switch form {
	case 0:
		return api.Dec{}
	case 4:
		return api.Dec{Kind: api.Inf, Neg: neg}
	case 5:
		return api.Dec{Kind: api.Nan}
	}
	bare := strings.ToLower(strings.ReplaceAll(strings.TrimLeft(s, "+-"), "_", ""))
	bare, behind, powered := strings.Cut(bare, "e")
	exp := new(reference.Int)
	if powered {
		exp = number(t, behind)
	}
	whole, frac, _ := strings.Cut(bare, ".")
	value := new(reference.Int)
	for _, part := range strings.Split("0"+whole, ":") {
		value.Mul(value, reference.NewInt(60))
		value.Add(value, number(t, part))
	}
	digits := number(t, value.String()+frac).String()
	if digits == "0" {
		return api.Dec{Neg: neg, Digits: "0", Exp: "0"}
	}
	exp.Sub(exp, reference.NewInt(int64(len(frac))))
	for strings.HasSuffix(digits, "0") {
		digits = strings.TrimSuffix(digits, "0")
		exp.Add(exp, reference.NewInt(1))
	}
	return api.Dec{Neg: neg, Digits: digits, Exp: exp.String()}
}

// check holds all three calls against the table and the library, and against the whole numbers.
func check(t *testing.T, s string) {
	t.Helper()
	form := slowForm(t, s)
	if Form(s) != form || Is(s) != (form != 0) {
		t.Fatalf("P7.1: %q is of the form %d: Form %d, Is %v", s, form, Form(s), Is(s))
	}
	d, ok := Of(s)
	if want := slowOf(t, s, form); d != want || ok != (form != 0) {
		t.Fatalf("P7.1: Of(%q) = %+v, %v, want %+v", s, d, ok, want)
	}
	if ok && !dec.Good(d) {
		t.Fatalf("P7.1: Of(%q) = %+v, which may not be", s, d)
	}
	if ok && int11.Is(s) {
		t.Fatalf("P7.2: %q is a whole number and a decimal", s)
	}
}

func finite(neg bool, digits, exp string) api.Dec {
	return api.Dec{Neg: neg, Digits: digits, Exp: exp}
}

func TestForms(t *testing.T) {
	for _, c := range []struct {
		s    string
		d    api.Dec
		form int
	}{
		{"1.", finite(false, "1", "0"), 1},
		{"0.", finite(false, "0", "0"), 1},
		{"-0.", finite(true, "0", "0"), 1},
		{"+0.0", finite(false, "0", "0"), 1},
		{"-0_0._0e+5", finite(true, "0", "0"), 1},
		{"1.5", finite(false, "15", "-1"), 1},
		{"+1.5", finite(false, "15", "-1"), 1},
		{"-1.5", finite(true, "15", "-1"), 1},
		{"1.50", finite(false, "15", "-1"), 1},
		{"100.", finite(false, "1", "2"), 1},
		{"100.00", finite(false, "1", "2"), 1},
		{"0.001", finite(false, "1", "-3"), 1},
		{"007.25", finite(false, "725", "-2"), 1},
		{"08.9", finite(false, "89", "-1"), 1},
		{"1_0.5_0", finite(false, "105", "-1"), 1},
		{"1_.5", finite(false, "15", "-1"), 1},
		{"1__._", finite(false, "1", "0"), 1},
		{"1._5", finite(false, "15", "-1"), 1},
		{"1.5_", finite(false, "15", "-1"), 1},
		{"1234567890.0987654321", finite(false, "12345678900987654321", "-10"), 1},
		{"1.e+3", finite(false, "1", "3"), 1},
		{"1.e-3", finite(false, "1", "-3"), 1},
		{"1.E+3", finite(false, "1", "3"), 1},
		{"1.5E-2", finite(false, "15", "-3"), 1},
		{"-1.5e+2", finite(true, "15", "1"), 1},
		{"1.5_e+1", finite(false, "15", "0"), 1},
		{"1._e+1", finite(false, "1", "1"), 1},
		{"1.5e+0", finite(false, "15", "-1"), 1},
		{"1.5e-0", finite(false, "15", "-1"), 1},
		{"1.5e+00", finite(false, "15", "-1"), 1},
		{"1.5e-00", finite(false, "15", "-1"), 1},
		{"1.5e+0010", finite(false, "15", "9"), 1},
		{"1.5e-0010", finite(false, "15", "-11"), 1},
		{"1.e+123456789012345678901234567890", finite(false, "1", "123456789012345678901234567890"), 1},
		{".5", finite(false, "5", "-1"), 2},
		{"+.5", finite(false, "5", "-1"), 2},
		{"-.5", finite(true, "5", "-1"), 2},
		{".0", finite(false, "0", "0"), 2},
		{"-.0", finite(true, "0", "0"), 2},
		{".005", finite(false, "5", "-3"), 2},
		{".50", finite(false, "5", "-1"), 2},
		{"._5", finite(false, "5", "-1"), 2},
		{".__5__", finite(false, "5", "-1"), 2},
		{".1_2", finite(false, "12", "-2"), 2},
		{".5e+1", finite(false, "5", "0"), 2},
		{".5E-1", finite(false, "5", "-2"), 2},
		{"-._5_e+02", finite(true, "5", "1"), 2},
		{"1:30.5", finite(false, "905", "-1"), 3},
		{"+1:30.5", finite(false, "905", "-1"), 3},
		{"-1:30.5", finite(true, "905", "-1"), 3},
		{"1:30.", finite(false, "9", "1"), 3},
		{"1:30.50", finite(false, "905", "-1"), 3},
		{"1:30._", finite(false, "9", "1"), 3},
		{"1:30.2_5", finite(false, "9025", "-2"), 3},
		{"1:0.", finite(false, "6", "1"), 3},
		{"1:00.", finite(false, "6", "1"), 3},
		{"1:9.", finite(false, "69", "0"), 3},
		{"1:09.", finite(false, "69", "0"), 3},
		{"1:59.", finite(false, "119", "0"), 3},
		{"0:0.", finite(false, "0", "0"), 3},
		{"-0:00.0", finite(true, "0", "0"), 3},
		{"0:1.5", finite(false, "15", "-1"), 3},
		{"007:01.5", finite(false, "4215", "-1"), 3},
		{"0_8:1.5", finite(false, "4815", "-1"), 3},
		{"1_0:1.", finite(false, "601", "0"), 3},
		{"1_:1.", finite(false, "61", "0"), 3},
		{"99:59:59.999", finite(false, "359999999", "-3"), 3},
		{"190:20:30.15", finite(false, "68523015", "-2"), 3},
		{".inf", api.Dec{Kind: api.Inf}, 4},
		{".Inf", api.Dec{Kind: api.Inf}, 4},
		{".INF", api.Dec{Kind: api.Inf}, 4},
		{"+.inf", api.Dec{Kind: api.Inf}, 4},
		{"+.Inf", api.Dec{Kind: api.Inf}, 4},
		{"+.INF", api.Dec{Kind: api.Inf}, 4},
		{"-.inf", api.Dec{Kind: api.Inf, Neg: true}, 4},
		{"-.Inf", api.Dec{Kind: api.Inf, Neg: true}, 4},
		{"-.INF", api.Dec{Kind: api.Inf, Neg: true}, 4},
		{".nan", api.Dec{Kind: api.Nan}, 5},
		{".NaN", api.Dec{Kind: api.Nan}, 5},
		{".NAN", api.Dec{Kind: api.Nan}, 5},
	} {
		d, ok := Of(c.s)
		if d != c.d || !ok {
			t.Errorf("P7.1: Of(%q) = %+v, %v, want %+v", c.s, d, ok, c.d)
		}
		if Form(c.s) != c.form || !Is(c.s) {
			t.Errorf("P7.1: Form(%q) = %d, Is %v, want %d", c.s, Form(c.s), Is(c.s), c.form)
		}
		check(t, c.s)
	}
}

func TestNone(t *testing.T) {
	for _, s := range []string{
		"", "+", "-", ".", "+.", "-.", "._", "-._", ".__", "..", "..5", "._.5", "_", "_1.0", "_.5", "-_1.5", "_._",
		"1", "-1", "0", "07", "1_0", "0x1", "0x1.5", "0b1.", "0o7.", "a.", "1a.5", "1.5a", "1.a", ".a", ".5a",
		"1e3", "1e+3", "1_e+3", "1.e3", "1.5e3", "1.5e", "1.5e+", "1.5e-", "1.5e+_", "1.5e+_1", "1.5e+0_1", "1.5e+1_", "1.5e_+1", "1.5e+x", "1.5e+1x", "1.5e++1", "1.5e+-1", "1.5e+1.", "1.5e+1.5", "1.5e+1e+1", "1.5ee+1", "1.5f+1", "1.5e +1", "1.5e+ 1", "1.5e+1:30",
		".e+1", "._e+1", "e+1", ".5e1", ".5e", ".5e+", ".5e+_1", "5.e", "+.e+1", ".5.", ".5.5", "1.2.3", "1..", "1..5", "1._.",
		"1:30", "1:60.5", "1:99.", "1:030.5", "1:000.", "1:5:60.", "1:60:5.", "1::3.", "1:.5", "1:30:.5", ":30.5", ":.5", ".5:30", "1.5:30", "1:30.5:30", "1:3_.0", "1:_3.0", "1:3_0.", "1:5_.0", "1:30.x", "1:30.5e+1", "1:30.e+1", "1:30.5E-1", "1:30..", "1:-3.5", "1:+3.5", "1:a.", "1:3a.", "1: 3.5", "1:30. ",
		".iNf", ".InF", ".iNF", ".inF", ".INf", ".infinity", ".in", ".i", ".inf.", "..inf", "inf", "Inf", "-inf", "+-.inf", "--.inf", "- .inf", ".inf ", " .inf", "0.inf", "1.inf", "._inf", ".inf_", ".inf0",
		".nAn", ".Nan", ".nAN", ".NAn", ".naN", ".nanx", ".na", ".n", "..nan", "nan", "NaN", "-.nan", "+.nan", "-.NaN", "+.NaN", "-.NAN", "+.NAN", "0.nan", ".nan ", " .nan", ".nan_",
		"++1.5", "--1.5", "+-1.5", "-+1.5", "1.5-", "1.5+", "1-.5", "1.-5", ".-5", ".+5", "- 1.5", " 1.5", "1.5 ", "1.5\n", "\n1.5", "1,5", "1.5\x00", "\x001.5", "\x00", ".5\x00", ".inf\x00", "1:30.5\x00", "\xB1.5", "1.5\xFF", "1\xAE5", "\u0661.5", "1.\u0665", "\uFF11.5", "1\uFF0E5", "\u22121.5", "1:3\u0660.5", "1.5e\u22121", "1.5e+\u0661",
		"yes", "null", "~", "2001-12-14", "2001-12-14t21:59:43.10-05:00",
	} {
		if d, ok := Of(s); d != (api.Dec{}) || ok {
			t.Errorf("P7.1: Of(%q) = %+v, %v", s, d, ok)
		}
		if Form(s) != 0 || Is(s) {
			t.Errorf("P7.1: Form(%q) = %d, Is %v", s, Form(s), Is(s))
		}
		check(t, s)
	}
}

// Every short text of the signs at which the machines turn.
func TestShortTexts(t *testing.T) {
	for _, s := range texts(6, "-056_.:") {
		check(t, s)
	}
	for _, s := range texts(6, "-+1._eE") {
		check(t, s)
	}
	for _, s := range texts(4, "-+0159_.:eExab ") {
		check(t, s)
	}
	for _, s := range texts(5, "-.infaN") {
		check(t, s)
	}
}

// Every short text behind a head that leads into each state.
func TestShortTextsBehindHeads(t *testing.T) {
	for _, head := range []string{"10", "-1_.", ".5", "._", "+1.5e", "1.e+", "1.0E-1", ".5e+", "1:", "1:3", "0:30", "0:6", "1:30:", "1:30.", "-1:5:09.5", ".in", ".na"} {
		for _, s := range texts(4, "-+06_.:eEnf") {
			check(t, head+s)
		}
	}
}

// Every way of great and small letters, with every sign.
func TestLettersOfWords(t *testing.T) {
	for _, sign := range []string{"", "+", "-"} {
		for _, first := range "iInN" {
			for _, second := range "nNaA" {
				for _, third := range "fFnN" {
					check(t, sign+"."+string([]rune{first, second, third}))
				}
			}
		}
	}
}

// Every byte, alone, doubled, and in the place of, ahead of and behind each byte of texts that have a form.
func TestEveryByte(t *testing.T) {
	for b := range 256 {
		sign := string([]byte{byte(b)})
		check(t, sign)
		check(t, sign+sign)
		for _, s := range written {
			for i := range len(s) {
				check(t, s[:i]+sign+s[i+1:])
				check(t, s[:i]+sign+s[i:])
			}
			check(t, s+sign)
			check(t, s+sign+sign)
		}
	}
}

// One byte is gone, or the text is cut off.
func TestCutTexts(t *testing.T) {
	for _, s := range written {
		if !Is(s) {
			t.Errorf("P7.1: %q has no form", s)
		}
		for i := range len(s) {
			check(t, s[:i])
			check(t, s[i:])
			check(t, s[:i]+s[i+1:])
		}
	}
}

// Every digit of base 60, written with one sign and with two, as the last one and ahead of another one.
func TestEveryDigitOfSixty(t *testing.T) {
	for _, part := range append(texts(1, "0123456789")[1:], texts(2, "0123456789")[11:]...) {
		ok := len(part) == 1 || part[0] < '6'
		for _, s := range []string{"1:" + part + ".", "0:" + part + ".5", "1:" + part + ":0.", "1:0:" + part + "._", "-99:" + part + ":59.07"} {
			if Is(s) != ok {
				t.Errorf("P7.1: Is(%q) = %v", s, !ok)
			}
			check(t, s)
		}
	}
}

// As many digits of base 60 as fill one step of a sum, or several, and one more or less.
func TestManyDigitsOfSixty(t *testing.T) {
	for count := range 40 {
		for _, part := range []string{":0", ":00", ":1", ":9", ":07", ":59"} {
			for _, head := range []string{"0", "00_0", "1", "-9", "+5_9", "060", "123456789012345678901234567890"} {
				check(t, head+strings.Repeat(part, count)+".")
				check(t, head+strings.Repeat(part, count)+":23:4.50")
			}
		}
	}
}

// Numbers that no machine number holds, with noughts and _ between.
func TestLongNumbers(t *testing.T) {
	for _, count := range []int{15, 16, 17, 31, 32, 33, 63, 64, 65, 100, 1000} {
		for _, digits := range []string{"1", "0", "01", "9_", "_10", "_"} {
			row := strings.Repeat(digits, count)
			for _, c := range [][2]string{{"7", "."}, {"-0", ".5"}, {"1.", ""}, {"+1.", "7"}, {".", ""}, {"-.", "7"}, {"0", ":30."}, {"1:30.", "05"}, {"1.5e+", ""}, {".5e-", ""}, {"-1.5E-", "1"}, {"1.", "e+10"}, {".", "e-0"}} {
				check(t, c[0]+row+c[1])
			}
		}
	}
}

// Powers that lead over nought in both ways, and over every length of a machine number.
func TestPowers(t *testing.T) {
	for _, digits := range []string{"0.", "1.", "100.", "100.00", "1.5", "0.001", "-0.0010", ".5", "-.005", ".000", "12_34.56_78"} {
		for _, sign := range []string{"+", "-"} {
			for _, power := range []string{"0", "00", "1", "01", "2", "3", "4", "9", "10", "11", "99", "100", "9999999", "10000000", "1099511627776", "1099511627777", "9223372036854775807", "9223372036854775808", "18446744073709551616", "0018446744073709551616", "99999999999999999999"} {
				check(t, digits+"e"+sign+power)
				check(t, digits+"E"+sign+power)
			}
		}
	}
}

// A sign changes neither whether there is a form nor which one, but that form 5 has none; and - alone is told.
func TestSigns(t *testing.T) {
	for _, s := range append(texts(5, "0159._:"), written...) {
		if strings.HasPrefix(s, "-") || strings.HasPrefix(s, "+") {
			continue
		}
		want, ok := Of(s)
		for _, sign := range []string{"+", "-"} {
			d, signed := Of(sign + s)
			if Form(s) == 5 {
				if d != (api.Dec{}) || signed {
					t.Fatalf("P7.1: Of(%q) = %+v, %v", sign+s, d, signed)
				}
				continue
			}
			want.Neg = ok && sign == "-"
			if d != want || signed != ok || Form(sign+s) != Form(s) {
				t.Fatalf("P7.1: Of(%q) = %+v, %v, want %+v", sign+s, d, signed, want)
			}
		}
	}
}

// Whole numbers of every form of theirs are no decimals.
func TestWholeNumbersAreNone(t *testing.T) {
	all := append(texts(5, "-01267b_x:"), "0b1", "-0b_1", "0xfF", "+0x_e", "0x1e", "010", "0_7", "0", "-0", "+0", "1", "9_0", "1:30", "-1:9", "190:20:30", "1"+strings.Repeat(":59", 30), strings.Repeat("9", 100))
	for _, s := range all {
		if !int11.Is(s) {
			continue
		}
		if d, ok := Of(s); d != (api.Dec{}) || ok || Is(s) || Form(s) != 0 {
			t.Fatalf("P7.2: %q is a whole number and a decimal: %+v, %v, %d", s, d, ok, Form(s))
		}
	}
}

// A whole number to the base 10 or 60 with a point behind it is a decimal, and says the same.
func TestPointsBehindWholeNumbers(t *testing.T) {
	forms := map[int]int{4: 1, 5: 1, 6: 3}
	for _, s := range texts(6, "-+0159_:") {
		form := forms[int11.Form(s)]
		if form == 0 {
			continue
		}
		whole, _ := int11.Of(s)
		want, _ := dec.Make(strings.HasPrefix(s, "-"), strings.TrimPrefix(whole, "-"), "", "0")
		if d, ok := Of(s + "."); d != want || !ok || Form(s+".") != form {
			t.Fatalf("P7.1: Of(%q) = %+v, %v, want %+v of the form %d", s+".", d, ok, want, form)
		}
	}
}

// What dec prints of a decimal that may be is that decimal, whatever its sign.
func TestPrintedDecimals(t *testing.T) {
	for _, s := range append(texts(5, "-0159._:"), written...) {
		d, ok := Of(s)
		if !ok {
			continue
		}
		if back, ok := Of(dec.Print(d)); back != d || !ok {
			t.Fatalf("P7.1: Of(%q) = %+v, %v, want %+v", dec.Print(d), back, ok, d)
		}
	}
}

// An answer is new memory, even where it is what was handed in.
func TestAnswersAreNew(t *testing.T) {
	long := strings.Repeat("9", 100)
	for _, s := range []string{long + ".", "." + long, long + "." + long, "-" + long + ".e-" + long, "1." + long + "e+" + long, long + ":59." + long} {
		d, ok := Of(s)
		if !ok || len(d.Digits) < len(long) {
			t.Errorf("P7.1: Of(%q) = %+v, %v", s, d, ok)
		}
		for i := range len(s) {
			at := unsafe.StringData(s[i:])
			if unsafe.StringData(d.Digits) == at || unsafe.StringData(d.Exp) == at {
				t.Errorf("Of(%q) shares the argument's memory", s)
			}
		}
	}
}

// Long texts are read without the stack, and in time.
func TestVeryLongTexts(t *testing.T) {
	const length = 1_000_000
	gaps, ones, noughts := strings.Repeat("_", length), strings.Repeat("1", length), strings.Repeat("0", length)
	for _, c := range []struct {
		s    string
		d    api.Dec
		form int
	}{
		{"1" + gaps + "." + gaps, finite(false, "1", "0"), 1},
		{"-." + gaps + "5" + gaps, finite(true, "5", "-1"), 2},
		{"1" + gaps + ":30." + gaps, finite(false, "9", "1"), 3},
		{noughts + ":30." + noughts, finite(false, "3", "1"), 3},
		{"-" + ones + "." + ones, finite(true, ones+ones, "-1000000"), 1},
		{"1" + noughts + ".", finite(false, "1", "1000000"), 1},
		{"." + noughts + "1", finite(false, "1", "-1000001"), 2},
		{"1." + noughts + "e+" + ones, finite(false, "1", ones), 1},
		{"0.1e-" + noughts + "1", finite(false, "1", "-2"), 1},
		{noughts + "." + noughts + "e-" + ones, finite(false, "0", "0"), 1},
		{"." + gaps, api.Dec{}, 0},
		{"1" + gaps, api.Dec{}, 0},
		{ones + ".x", api.Dec{}, 0},
		{"1.e+" + ones + "_", api.Dec{}, 0},
		{"1" + strings.Repeat(":1", length) + ":60.", api.Dec{}, 0},
		{"1" + strings.Repeat(":1", length), api.Dec{}, 0},
	} {
		// A wrong form ends the test: the number that it says might take minutes to make.
		if form := Form(c.s); form != c.form {
			t.Fatalf("P7.1: %q..: form %d, want %d", c.s[:3], form, c.form)
		}
		if d, ok := Of(c.s); d != c.d || ok != (c.form != 0) {
			t.Errorf("P7.1: %q..: another decimal, %v", c.s[:3], ok)
		}
	}
	check(t, "-07"+strings.Repeat(":59", 5_000)+".25")
}

func FuzzDecimals(f *testing.F) {
	for _, s := range written {
		f.Add(s)
	}
	f.Add("1.5e+0_1")
	f.Add("1:030.5")
	f.Fuzz(check)
}
