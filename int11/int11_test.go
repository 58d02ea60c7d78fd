package int11

import (
	reference "math/big"
	"regexp"
	"strings"
	"testing"
	"unsafe"
)

// The chapter's table, a pattern a form: patterns[0] is form 1.
var patterns = []*regexp.Regexp{
	regexp.MustCompile(`\A[+-]?0b[01_]*[01][01_]*\z`),
	regexp.MustCompile(`\A[+-]?0x[0-9a-fA-F_]*[0-9a-fA-F][0-9a-fA-F_]*\z`),
	regexp.MustCompile(`\A[+-]?0[0-7_]*[0-7][0-7_]*\z`),
	regexp.MustCompile(`\A[+-]?0\z`),
	regexp.MustCompile(`\A[+-]?[1-9][0-9_]*\z`),
	regexp.MustCompile(`\A[+-]?[1-9][0-9_]*(:([0-9]|[0-5][0-9]))+\z`),
}

// Texts of every form, at the edges of each.
var written = []string{"0b0", "0b1", "-0b101", "+0b_1_", "0x0", "0xF", "-0xaF_09", "+0x__b", "00", "07", "-0_7", "+017_", "0", "-0", "+0", "1", "9", "-10", "+1_0__9", "1:0", "1:9", "-1:59", "+1_0:5:00", "190:20:30"}

// texts makes every text of at most n of the signs.
func texts(n int, signs string) []string {
	all, last := []string{""}, []string{""}
	for range n {
		var longer []string
		for _, s := range last {
			for i := range len(signs) {
				longer = append(longer, s+signs[i:i+1])
			}
		}
		all, last = append(all, longer...), longer
	}
	return all
}

// slowForms tells every form that the table gives s.
func slowForms(s string) []int {
	var forms []int
	for i, pattern := range patterns {
		if pattern.MatchString(s) {
			forms = append(forms, i+1)
		}
	}
	return forms
}

func number(t *testing.T, digits string, base int) *reference.Int {
	t.Helper()
	n, ok := new(reference.Int).SetString(digits, base)
	if !ok {
		t.Fatalf("%q is no number of base %d", digits, base)
	}
	return n
}

// slowOf reads s of the form by the library's numbers, digit by digit of base 60.
func slowOf(t *testing.T, s string, form int) string {
	t.Helper()
	bare := strings.ReplaceAll(strings.TrimLeft(s, "+-"), "_", "")
	n := new(reference.Int)
	switch form {
	case 1:
		n = number(t, bare[2:], 2)
	case 2:
		n = number(t, bare[2:], 16)
	case 3:
		n = number(t, bare, 8)
	case 4, 5:
		n = number(t, bare, 10)
	case 6:
		for _, part := range strings.Split(bare, ":") {
			n.Mul(n, reference.NewInt(60))
			n.Add(n, number(t, part, 10))
		}
	}
	if strings.HasPrefix(s, "-") {
		n.Neg(n)
	}
	return n.String()
}

// check holds all three calls against the table and the library.
func check(t *testing.T, s string) {
	t.Helper()
	forms := slowForms(s)
	if len(forms) > 1 {
		t.Fatalf("P6.2: %q is of the forms %v", s, forms)
	}
	n, ok := Of(s)
	if len(forms) == 0 {
		if n != "" || ok || Form(s) != 0 || Is(s) {
			t.Fatalf("P6.2: %q has no form: Of %q, %v, Form %d, Is %v", s, n, ok, Form(s), Is(s))
		}
		return
	}
	if Form(s) != forms[0] || !Is(s) {
		t.Fatalf("P6.1: %q is of the form %d: Form %d, Is %v", s, forms[0], Form(s), Is(s))
	}
	if want := slowOf(t, s, forms[0]); n != want || !ok {
		t.Fatalf("P6.1: Of(%q) = %q, %v, want %q", s, n, ok, want)
	}
}

func TestForms(t *testing.T) {
	for _, c := range []struct {
		s, n string
		form int
	}{
		{"0b0", "0", 1},
		{"0b1", "1", 1},
		{"0b101", "5", 1},
		{"-0b101", "-5", 1},
		{"+0b101", "5", 1},
		{"-0b0", "0", 1},
		{"0b_1", "1", 1},
		{"0b1_", "1", 1},
		{"0b__1__0__", "2", 1},
		{"0b0001", "1", 1},
		{"0x0", "0", 2},
		{"0xff", "255", 2},
		{"0xFF", "255", 2},
		{"-0xfF", "-255", 2},
		{"+0x10", "16", 2},
		{"-0x00", "0", 2},
		{"0x_b", "11", 2},
		{"0xb_", "11", 2},
		{"0xabcdef", "11259375", 2},
		{"0xABCDEF", "11259375", 2},
		{"0x0123456789", "4886718345", 2},
		{"00", "0", 3},
		{"-00", "0", 3},
		{"010", "8", 3},
		{"-010", "-8", 3},
		{"+010", "8", 3},
		{"0_7", "7", 3},
		{"07_", "7", 3},
		{"0__7__", "7", 3},
		{"0_0", "0", 3},
		{"-0_0", "0", 3},
		{"01234567", "342391", 3},
		{"0", "0", 4},
		{"+0", "0", 4},
		{"-0", "0", 4},
		{"1", "1", 5},
		{"9", "9", 5},
		{"-9", "-9", 5},
		{"+9", "9", 5},
		{"10", "10", 5},
		{"1_0", "10", 5},
		{"1_", "1", 5},
		{"-1__0__", "-10", 5},
		{"1234567890", "1234567890", 5},
		{"1:30", "90", 6},
		{"-1:30", "-90", 6},
		{"+1:30", "90", 6},
		{"1:0", "60", 6},
		{"1:00", "60", 6},
		{"1:9", "69", 6},
		{"1:09", "69", 6},
		{"1:59", "119", 6},
		{"9:59:59", "35999", 6},
		{"60:00", "3600", 6},
		{"1_0:1", "601", 6},
		{"1_:1", "61", 6},
		{"190:20:30", "685230", 6},
	} {
		n, ok := Of(c.s)
		if n != c.n || !ok {
			t.Errorf("P6.1: Of(%q) = %q, %v, want %q", c.s, n, ok, c.n)
		}
		if Form(c.s) != c.form || !Is(c.s) {
			t.Errorf("P6.1: Form(%q) = %d, Is %v, want %d", c.s, Form(c.s), Is(c.s), c.form)
		}
		check(t, c.s)
	}
}

func TestNone(t *testing.T) {
	for _, s := range []string{
		"", "+", "-", "++", "--1", "++1", "+-1", "-+0", "1-", "1+", "0-1", "- 1",
		"0b", "0b_", "0b__", "-0b", "0b2", "0b12", "0b1:1", "0B1", "0_b1", "-0_b", "b1", "0b-1", "0b0b1",
		"0x", "0x_", "+0x", "0xg", "0x1g", "0X1", "0_x1", "x1", "0x1:1", "0x-1", "0x1.",
		"0_", "0__", "-0_", "08", "09", "078", "0_8", "07a", "0a", "0:30", "00:30", "07:30", "0_1:30",
		"0o7", "0o", "_", "_0", "_1", "-_1", "__", "a", "f", "0.", "1.", "1.0", ".1", "1e3", "1a", "1_a",
		"1:", "1:_", "1:_0", "1:3_", "1:3_0", "1:60", "1:99", "1:030", "1:000", "1:5:60", "1::3", "1:30:", ":30", ":", "1:30:x", "1:-3", "1:a", "1 :30", "1:30.5",
		" 1", "1 ", "1\n", "\n1", "\t0", "1,0", "yes", "null", "1\x00", "\x00", "0\x00", "1:30\x00", "\xB1", "1\xFF", "\u0661", "1\u0661", "\uFF11", "\u22121", "1:\u0661", "0x\uFF21",
	} {
		if n, ok := Of(s); n != "" || ok {
			t.Errorf("P6.2: Of(%q) = %q, %v", s, n, ok)
		}
		if Form(s) != 0 || Is(s) {
			t.Errorf("P6.2: Form(%q) = %d, Is %v", s, Form(s), Is(s))
		}
		check(t, s)
	}
}

// Every short text of the signs at which the machines turn.
func TestShortTexts(t *testing.T) {
	for _, s := range texts(7, "-0167_:") {
		check(t, s)
	}
	for _, s := range texts(6, "+-0b12_x:") {
		check(t, s)
	}
	for _, s := range texts(4, "-0178bxofFgG_:.") {
		check(t, s)
	}
}

// Every byte, alone, doubled, and in the place of, ahead of and behind each byte of texts that have a form.
func TestEveryByte(t *testing.T) {
	for b := range 256 {
		sign := string([]byte{byte(b)})
		check(t, sign)
		check(t, sign+sign)
		for _, s := range written {
			for i := range len(s) {
				check(t, s[:i]+sign+s[i+1:])
				check(t, s[:i]+sign+s[i:])
			}
			check(t, s+sign)
			check(t, s+sign+sign)
		}
	}
}

// One byte is gone, or the text is cut off.
func TestCutTexts(t *testing.T) {
	for _, s := range written {
		check(t, s)
		for i := range len(s) {
			check(t, s[:i])
			check(t, s[i:])
			check(t, s[:i]+s[i+1:])
		}
	}
}

// Every digit of base 60, written with one sign and with two, as the last one and ahead of another one.
func TestEveryDigitOfSixty(t *testing.T) {
	for _, part := range append(texts(1, "0123456789")[1:], texts(2, "0123456789")[11:]...) {
		ok := len(part) == 1 || part[0] < '6'
		for _, s := range []string{"1:" + part, "1:" + part + ":0", "1:0:" + part, "-99:" + part + ":59"} {
			if Is(s) != ok {
				t.Errorf("P6.1: Is(%q) = %v", s, !ok)
			}
			check(t, s)
		}
	}
}

// As many digits of base 60 as fill one step of a sum, or several, and one more or less.
func TestManyDigitsOfSixty(t *testing.T) {
	for count := range 40 {
		for _, part := range []string{":0", ":00", ":1", ":9", ":07", ":59"} {
			for _, head := range []string{"1", "-9", "+5_9", "60", "123456789012345678901234567890"} {
				check(t, head+strings.Repeat(part, count))
				check(t, head+strings.Repeat(part, count)+":23:4")
			}
		}
	}
}

// Numbers that no machine number holds, with noughts ahead and _ between.
func TestLongNumbers(t *testing.T) {
	for _, count := range []int{15, 16, 17, 31, 32, 33, 63, 64, 65, 100, 1000} {
		for _, digits := range []string{"1", "0", "01", "1_", "_10", "_"} {
			row := strings.Repeat(digits, count)
			for _, ahead := range []string{"0b", "0x", "0", "1", "1:30:1", "-0b", "-0x", "-0", "-9", "+7"} {
				check(t, ahead+row)
				check(t, ahead+row+"7")
				check(t, ahead+row+"8")
				check(t, ahead+row+"f")
				check(t, ahead+row+":30")
			}
		}
	}
}

// A - ahead of nought says nought in every form that can say it.
func TestNoughtHasOneText(t *testing.T) {
	for _, s := range []string{"0", "00", "0_0", "0000", "0b0", "0b_0", "0b00", "0x0", "0x_0_", "0x000"} {
		for _, sign := range []string{"", "+", "-"} {
			if n, ok := Of(sign + s); n != "0" || !ok {
				t.Errorf("P6.1: Of(%q) = %q, %v", sign+s, n, ok)
			}
		}
	}
}

// A sign changes neither whether there is a form nor which one.
func TestSignsKeepForms(t *testing.T) {
	for _, s := range texts(5, "0127bx_:") {
		form := Form(s)
		if Form("+"+s) != form || Form("-"+s) != form {
			t.Fatalf("P6.1: %q: %d, with signs %d and %d", s, form, Form("+"+s), Form("-"+s))
		}
	}
}

// An answer is new memory, even where it is what was handed in.
func TestAnswersAreNew(t *testing.T) {
	for _, s := range []string{"0", "7", strings.Repeat("9", 100), "-" + strings.Repeat("9", 100), "+" + strings.Repeat("9", 100)} {
		n, ok := Of(s)
		if n != strings.TrimPrefix(s, "+") || !ok {
			t.Errorf("P6.1: Of(%q) = %q, %v", s, n, ok)
		}
		for i := range len(s) {
			if len(s) > 1 && unsafe.StringData(n) == unsafe.StringData(s[i:]) {
				t.Errorf("Of(%q) shares the argument's memory", s)
			}
		}
	}
}

// Long texts are read without the stack, and in time.
func TestVeryLongTexts(t *testing.T) {
	const length = 1_000_000
	gaps, ones := strings.Repeat("_", length), strings.Repeat("1", length)
	for _, c := range []struct {
		s, n string
		form int
	}{
		{"0" + gaps + "7", "7", 3},
		{"-0x" + gaps + "f" + gaps, "-15", 2},
		{"0b" + gaps + "1", "1", 1},
		{"1" + gaps, "1", 5},
		{"1" + gaps + ":30", "90", 6},
		{"-" + ones, "-" + ones, 5},
		{"00" + strings.Repeat("0", length), "0", 3},
		{"0" + gaps, "", 0},
		{"0x" + gaps, "", 0},
		{ones + "x", "", 0},
		{"1" + strings.Repeat(":1", length) + ":60", "", 0},
	} {
		// A wrong form ends the test: the number that it says might take minutes to make.
		if form := Form(c.s); form != c.form {
			t.Fatalf("P6.1, P6.2: %q..: form %d, want %d", c.s[:3], form, c.form)
		}
		if n, ok := Of(c.s); n != c.n || ok != (c.form != 0) {
			t.Errorf("P6.1, P6.2: %q..: another number, %v", c.s[:3], ok)
		}
	}
	check(t, "7"+strings.Repeat(":59", 5_000))
	check(t, "-0x"+strings.Repeat("0fA9_", 3_000))
}

func FuzzNumbers(f *testing.F) {
	for _, s := range written {
		f.Add(s)
	}
	f.Add("-0_b")
	f.Add("1:030")
	f.Fuzz(check)
}
