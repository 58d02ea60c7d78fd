package dec

import (
	"math"
	reference "math/big"
	"regexp"
	"strconv"
	"strings"
	"testing"
	"unsafe"

	"targum/api"
)

// What the chapter's words say of digits, of whole numbers and of texts, written down as patterns.
var (
	someDigits = regexp.MustCompile(`\A[0-9]+\z`)
	bareDigits = regexp.MustCompile(`\A[1-9]([0-9]*[1-9])?\z`)
	wholes     = regexp.MustCompile(`\A(0|-?[1-9][0-9]*)\z`)
	printed    = regexp.MustCompile(`\A(-?0\.e\+0|-?[1-9]([0-9]*[1-9])?\.e(\+0|[+-][1-9][0-9]*)|-?\.inf|\.nan)\z`)
)

// Texts that are neither digits nor whole numbers.
var neither = []string{"-", "+", "+1", "1-", "--1", " 1", "1 ", "1\n", "\n1", "1_1", "1.1", ".", "1.", ".1", "1e1", "a", "1a1", "0x1", ":", "/", "1\x001", "\xB1", "1\xFF1", "\u0661", "1\u06611", "\uFF11", strings.Repeat("1", 40) + "x", "x" + strings.Repeat("1", 40)}

// Texts that are no digits, the empty one aside.
var noDigits = append([]string{"-1", "-0", "-12345678901234567890"}, neither...)

// Texts that are no whole numbers.
var noWholes = append([]string{"", "-0", "+0", "00", "01", "-01", "007", "0-", "-" + strings.Repeat("0", 30)}, neither...)

// Kinds that no decimal has.
var noKinds = []int{-1, -2, 3, 4, 10, 1 << 8, 1<<8 + 1, 1 << 32, 1<<32 + 2, math.MaxInt, math.MinInt}

// Whole numbers at the edges of signs, lengths, steps and machine numbers.
var exps = []string{"0", "1", "-1", "2", "-2", "5", "-5", "9", "-9", "10", "-10", "11", "-11", "99", "-99", "100", "-100", "9999999", "-9999999", "10000000", "-10000000", "1099511627776", "-1099511627776", "9223372036854775807", "-9223372036854775808", "18446744073709551615", "12345678901234567890", "-12345678901234567890", "100000000000000000000", "-100000000000000000000", strings.Repeat("9", 60), "-" + strings.Repeat("9", 60)}

// texts makes every text of at most n of the signs.
func texts(n int, signs string) []string {
	all, last := []string{""}, []string{""}
	for range n {
		var longer []string
		for _, s := range last {
			for i := range len(signs) {
				longer = append(longer, s+signs[i:i+1])
			}
		}
		all, last = append(all, longer...), longer
	}
	return all
}

// slowGood is the chapter's words, one by one.
func slowGood(d api.Dec) bool {
	switch d.Kind {
	case api.Finite:
		if d.Digits == "0" && d.Exp == "0" {
			return true
		}
		return bareDigits.MatchString(d.Digits) && wholes.MatchString(d.Exp)
	case api.Inf:
		return d.Digits == "" && d.Exp == ""
	case api.Nan:
		return d.Digits == "" && d.Exp == "" && !d.Neg
	}
	return false
}

func checkGood(t *testing.T, d api.Dec) {
	t.Helper()
	want := slowGood(d)
	if Good(d) != want {
		t.Fatalf("P5.1: Good(%+v) = %v", d, !want)
	}
	if s := Print(d); (s != "") != want {
		t.Fatalf("P5.3: Print(%+v) = %q", d, s)
	}
}

func TestGood(t *testing.T) {
	for _, c := range []struct {
		d    api.Dec
		want bool
	}{
		{api.Dec{Digits: "0", Exp: "0"}, true},
		{api.Dec{Neg: true, Digits: "0", Exp: "0"}, true},
		{api.Dec{Digits: "1", Exp: "0"}, true},
		{api.Dec{Neg: true, Digits: "1", Exp: "0"}, true},
		{api.Dec{Digits: "15", Exp: "-1"}, true},
		{api.Dec{Digits: "1001", Exp: "10"}, true},
		{api.Dec{Digits: strings.Repeat("7", 50), Exp: "-" + strings.Repeat("9", 50)}, true},
		{api.Dec{Kind: api.Inf}, true},
		{api.Dec{Kind: api.Inf, Neg: true}, true},
		{api.Dec{Kind: api.Nan}, true},
		{api.Dec{}, false},
		{api.Dec{Neg: true}, false},
		{api.Dec{Digits: "0"}, false},
		{api.Dec{Exp: "0"}, false},
		{api.Dec{Digits: "0", Exp: "1"}, false},
		{api.Dec{Digits: "0", Exp: "-1"}, false},
		{api.Dec{Digits: "00", Exp: "0"}, false},
		{api.Dec{Digits: "10", Exp: "0"}, false},
		{api.Dec{Digits: "01", Exp: "0"}, false},
		{api.Dec{Digits: "010", Exp: "0"}, false},
		{api.Dec{Digits: "-1", Exp: "0"}, false},
		{api.Dec{Digits: "1", Exp: "-0"}, false},
		{api.Dec{Digits: "1", Exp: "+1"}, false},
		{api.Dec{Digits: "1", Exp: "01"}, false},
		{api.Dec{Digits: "1"}, false},
		{api.Dec{Kind: api.Inf, Digits: "0", Exp: "0"}, false},
		{api.Dec{Kind: api.Inf, Digits: "1"}, false},
		{api.Dec{Kind: api.Inf, Neg: true, Exp: "0"}, false},
		{api.Dec{Kind: api.Nan, Neg: true}, false},
		{api.Dec{Kind: api.Nan, Digits: "0", Exp: "0"}, false},
		{api.Dec{Kind: api.Nan, Digits: "1"}, false},
		{api.Dec{Kind: api.Nan, Exp: "0"}, false},
	} {
		if got := Good(c.d); got != c.want {
			t.Errorf("P5.1: Good(%+v) = %v", c.d, got)
		}
	}
}

// Every kind with every short Digits and Exp, with and without Neg.
func TestGoodOfShortParts(t *testing.T) {
	kinds := append([]int{api.Finite, api.Inf, api.Nan}, noKinds...)
	parts := texts(3, "-+.e019a")
	for _, kind := range kinds {
		for _, neg := range []bool{false, true} {
			for _, digits := range parts {
				for _, exp := range append([]string{"", "0", "1", "-1", "10", "-0", "01", "+1"}, digits) {
					checkGood(t, api.Dec{Kind: kind, Neg: neg, Digits: digits, Exp: exp})
					checkGood(t, api.Dec{Kind: kind, Neg: neg, Digits: exp, Exp: digits})
				}
			}
		}
	}
}

// Of all bytes the digits 0 to 9 alone are digits, and - alone is a sign.
func TestEveryByte(t *testing.T) {
	for b := range 256 {
		s := string([]byte{byte(b)})
		checkGood(t, api.Dec{Digits: s, Exp: "0"})
		checkGood(t, api.Dec{Digits: "1" + s + "1", Exp: "0"})
		checkGood(t, api.Dec{Digits: "1", Exp: s})
		checkGood(t, api.Dec{Digits: "1", Exp: s + "1"})
		checkGood(t, api.Dec{Digits: "1", Exp: "-1" + s})
		for _, exp := range []string{"0", s, s + "1", "-1" + s} {
			checkMake(t, s, "", exp)
			checkMake(t, "", s, exp)
			checkMake(t, "1"+s+"1", "5", exp)
			checkMake(t, "5", "1"+s+"1", exp)
		}
	}
}

func TestMake(t *testing.T) {
	for _, c := range []struct {
		neg               bool
		whole, frac, exp  string
		digits, wantedExp string
	}{
		{false, "01", "50", "0", "15", "-1"},
		{false, "1", "", "0", "1", "0"},
		{false, "", "1", "0", "1", "-1"},
		{true, "1", "", "0", "1", "0"},
		{true, "12", "34", "5", "1234", "3"},
		{false, "100", "", "0", "1", "2"},
		{false, "100", "000", "0", "1", "2"},
		{false, "000", "001", "0", "1", "-3"},
		{false, "000", "00100", "4", "1", "1"},
		{false, "0", "5", "1", "5", "0"},
		{false, "5", "", "-1", "5", "-1"},
		{false, "10", "", "-1", "1", "0"},
		{false, "10", "", "-2", "1", "-1"},
		{false, "", "01", "1", "1", "-1"},
		{false, "", "01", "3", "1", "1"},
		{true, "1001", "1001", "-4", "10011001", "-8"},
		{false, "0", "", "0", "0", "0"},
		{true, "0", "", "0", "0", "0"},
		{false, "", "0", "0", "0", "0"},
		{true, "000", "000", "7", "0", "0"},
		{false, "000", "000", "-7", "0", "0"},
		{true, "", "000", "-" + strings.Repeat("9", 30), "0", "0"},
		{false, "1", "0", strings.Repeat("9", 30), "1", strings.Repeat("9", 30)},
		{false, "10", "", strings.Repeat("9", 30), "1", "1" + strings.Repeat("0", 30)},
		{false, "", "1", "1" + strings.Repeat("0", 30), "1", strings.Repeat("9", 30)},
		{false, "", "1", "-" + strings.Repeat("9", 30), "1", "-1" + strings.Repeat("0", 30)},
	} {
		want := api.Dec{Neg: c.neg, Digits: c.digits, Exp: c.wantedExp}
		if d, ok := Make(c.neg, c.whole, c.frac, c.exp); d != want || !ok {
			t.Errorf("P5.2: Make(%v, %q, %q, %q) = %+v, %v, want %+v", c.neg, c.whole, c.frac, c.exp, d, ok, want)
		}
	}
}

// scaled tells the number n times ten to the exp, written without any power: exp must be small.
func scaled(t *testing.T, digits, exp string) *reference.Rat {
	t.Helper()
	n, ok := new(reference.Rat).SetString(digits + "e" + exp)
	if !ok {
		t.Fatalf("%q and %q are no number", digits, exp)
	}
	return n
}

// checkMake holds Make against the patterns, and, where exp is small, against the library's numbers.
func checkMake(t *testing.T, whole, frac, exp string) {
	t.Helper()
	want := someDigits.MatchString(whole+frac) && wholes.MatchString(exp)
	for _, neg := range []bool{false, true} {
		d, ok := Make(neg, whole, frac, exp)
		if ok != want {
			t.Fatalf("P5.2: Make(%v, %q, %q, %q) = %+v, %v", neg, whole, frac, exp, d, ok)
		}
		if !ok {
			if d != (api.Dec{}) {
				t.Fatalf("P5.2: Make(%v, %q, %q, %q) = %+v, false", neg, whole, frac, exp, d)
			}
			continue
		}
		if !slowGood(d) || d.Kind != api.Finite || d.Neg != neg {
			t.Fatalf("P5.2: Make(%v, %q, %q, %q) = %+v", neg, whole, frac, exp, d)
		}
		if len(exp) < 4 && scaled(t, d.Digits, d.Exp).Cmp(scaled(t, whole+"."+frac, exp)) != 0 {
			t.Fatalf("P5.2: Make(%v, %q, %q, %q) = %+v, another number", neg, whole, frac, exp, d)
		}
		if back, ok := Parse(Print(d)); back != d || !ok {
			t.Fatalf("P5.3: %+v: Print %q, Parse %+v, %v", d, Print(d), back, ok)
		}
	}
}

// Every short whole and frac, with powers that lead over nought in both ways.
func TestMakeOfShortParts(t *testing.T) {
	parts := texts(4, "019")
	for _, whole := range parts {
		for _, frac := range parts {
			for _, exp := range []string{"0", "3", "-3", "10", "-99", "100"} {
				checkMake(t, whole, frac, exp)
			}
		}
	}
}

// Powers at the edges of lengths and machine numbers: moved by as many noughts and places as there are.
func TestMakeMovesPowers(t *testing.T) {
	for _, exp := range exps {
		for _, noughts := range []int{0, 1, 2, 5, 9, 10, 11, 99, 100, 101} {
			for _, places := range []int{0, 1, 2, 5, 9, 10, 11, 99, 100, 101} {
				n, _ := new(reference.Int).SetString(exp, 10)
				n.Add(n, reference.NewInt(int64(noughts)))
				got, ok := Make(true, "00102"+strings.Repeat("0", noughts), "", exp)
				if want := (api.Dec{Neg: true, Digits: "102", Exp: n.String()}); got != want || !ok {
					t.Fatalf("P5.2: %d noughts, power %s: %+v, %v", noughts, exp, got, ok)
				}
				n.SetString(exp, 10)
				n.Sub(n, reference.NewInt(int64(places+3)))
				got, ok = Make(false, "000", strings.Repeat("0", places)+"102"+strings.Repeat("0", noughts), exp)
				if want := (api.Dec{Digits: "102", Exp: n.String()}); got != want || !ok {
					t.Fatalf("P5.2: %d places, %d noughts, power %s: %+v, %v", places, noughts, exp, got, ok)
				}
			}
		}
	}
}

func TestMakeOfNone(t *testing.T) {
	none := func(whole, frac, exp string) {
		t.Helper()
		for _, neg := range []bool{false, true} {
			if d, ok := Make(neg, whole, frac, exp); d != (api.Dec{}) || ok {
				t.Errorf("P5.2: Make(%v, %q, %q, %q) = %+v, %v", neg, whole, frac, exp, d, ok)
			}
		}
	}
	for _, exp := range append(exps, noWholes...) {
		none("", "", exp)
		for _, bad := range noDigits {
			for _, other := range []string{"", "0", "000", "1", "10", bad} {
				none(bad, other, exp)
				none(other, bad, exp)
			}
		}
	}
	for _, exp := range noWholes {
		for _, part := range []string{"0", "000", "1", "10", "01"} {
			none(part, "", exp)
			none("", part, exp)
			none(part, part, exp)
		}
	}
}

func TestPrintAndParse(t *testing.T) {
	for _, c := range []struct {
		d    api.Dec
		want string
	}{
		{api.Dec{Digits: "15", Exp: "-1"}, "15.e-1"},
		{api.Dec{Neg: true, Digits: "15", Exp: "-1"}, "-15.e-1"},
		{api.Dec{Digits: "15", Exp: "0"}, "15.e+0"},
		{api.Dec{Neg: true, Digits: "15", Exp: "1"}, "-15.e+1"},
		{api.Dec{Digits: "1", Exp: "10"}, "1.e+10"},
		{api.Dec{Digits: "1", Exp: "-10"}, "1.e-10"},
		{api.Dec{Digits: "1001", Exp: "0"}, "1001.e+0"},
		{api.Dec{Digits: "0", Exp: "0"}, "0.e+0"},
		{api.Dec{Neg: true, Digits: "0", Exp: "0"}, "-0.e+0"},
		{api.Dec{Kind: api.Inf}, ".inf"},
		{api.Dec{Kind: api.Inf, Neg: true}, "-.inf"},
		{api.Dec{Kind: api.Nan}, ".nan"},
		{api.Dec{Digits: strings.Repeat("3", 40), Exp: strings.Repeat("9", 40)}, strings.Repeat("3", 40) + ".e+" + strings.Repeat("9", 40)},
		{api.Dec{Digits: strings.Repeat("3", 40), Exp: "-" + strings.Repeat("9", 40)}, strings.Repeat("3", 40) + ".e-" + strings.Repeat("9", 40)},
	} {
		if got := Print(c.d); got != c.want {
			t.Errorf("P5.3: Print(%+v) = %q, want %q", c.d, got, c.want)
		}
		if d, ok := Parse(c.want); d != c.d || !ok {
			t.Errorf("P5.3: Parse(%q) = %+v, %v, want %+v", c.want, d, ok, c.d)
		}
	}
}

func TestPrintOfPowers(t *testing.T) {
	for _, exp := range exps {
		want := "-102.e+" + exp
		if exp[0] == '-' {
			want = "-102.e" + exp
		}
		d := api.Dec{Neg: true, Digits: "102", Exp: exp}
		if got := Print(d); got != want {
			t.Errorf("P5.3: Print(%+v) = %q, want %q", d, got, want)
		}
		if got, ok := Parse(want); got != d || !ok {
			t.Errorf("P5.3: Parse(%q) = %+v, %v", want, got, ok)
		}
	}
}

func TestPrintOfNone(t *testing.T) {
	var all []api.Dec
	for _, kind := range noKinds {
		all = append(all, api.Dec{Kind: kind}, api.Dec{Kind: kind, Neg: true}, api.Dec{Kind: kind, Digits: "0", Exp: "0"}, api.Dec{Kind: kind, Digits: "15", Exp: "-1"})
	}
	for _, digits := range append([]string{"", "0", "00", "01", "10"}, noDigits...) {
		all = append(all, api.Dec{Digits: digits, Exp: "1"}, api.Dec{Neg: true, Digits: digits, Exp: "-1"})
	}
	for _, exp := range noWholes {
		all = append(all, api.Dec{Digits: "0", Exp: exp}, api.Dec{Neg: true, Digits: "15", Exp: exp})
	}
	all = append(all, api.Dec{Kind: api.Nan, Neg: true}, api.Dec{Kind: api.Nan, Digits: "1", Exp: "0"}, api.Dec{Kind: api.Inf, Digits: "1", Exp: "0"}, api.Dec{Kind: api.Inf, Exp: "0"})
	for _, d := range all {
		if got := Print(d); got != "" {
			t.Errorf("P5.3: Print(%+v) = %q", d, got)
		}
		if Good(d) {
			t.Errorf("P5.1: %+v is good", d)
		}
	}
}

// checkParse holds Parse against the pattern of all that is printed.
func checkParse(t *testing.T, s string) {
	t.Helper()
	want := printed.MatchString(s)
	d, ok := Parse(s)
	if ok != want {
		t.Fatalf("P5.3: Parse(%q) = %+v, %v", s, d, ok)
	}
	if !ok && d != (api.Dec{}) {
		t.Fatalf("P5.3: Parse(%q) = %+v, false", s, d)
	}
	if ok && (!slowGood(d) || Print(d) != s) {
		t.Fatalf("P5.3: Parse(%q) = %+v, whose Print is %q", s, d, Print(d))
	}
}

func TestParseOfNone(t *testing.T) {
	for _, s := range []string{"", "-", ".", "-.", "e", ".e", "0", "-0", "1", "15", "1.", "1.5", "1.5e+0", "1e+0", "1e0", "1.e", "1.e+", "1.e-", "1.e0", "1.e1", "1.E+0", "10.e+0", "01.e+0", "00.e+0", "0.e+1", "0.e-1", "0.e-0", "-0.e-0", "1.e-0", "1.e+00", "1.e+01", "1.e-01", "1.e+-1", "1.e-+1", "1.e++1", "1.e--1", "+1.e+0", "--1.e+0", "- 1.e+0", " 1.e+0", "1.e+0 ", "1.e+0\n", "1.e +0", "1..e+0", "1.e+0.e+0", "1.e.e+0", ".e+0", "-.e+0", "a.e+0", "1.e+a", "1_1.e+0", ".inf.e+0", "inf", "+.inf", "--.inf", ".Inf", ".INF", "-.Inf", ".infinity", ".inf ", "0.inf", "nan", "-.nan", "+.nan", ".NaN", ".NAN", ".nan.", "..nan", "\u0661.e+0", "1.e+\u0661", "1\x00.e+0", "1.e+0\x00"} {
		if d, ok := Parse(s); d != (api.Dec{}) || ok {
			t.Errorf("P5.3: Parse(%q) = %+v, %v", s, d, ok)
		}
		checkParse(t, s)
	}
}

func TestParseOfShortTexts(t *testing.T) {
	for _, s := range texts(7, "-+.e01") {
		checkParse(t, s)
	}
	for _, s := range texts(5, "-.infa") {
		checkParse(t, s)
	}
	for _, ahead := range texts(3, "-+01a") {
		for _, behind := range texts(3, "-+01a") {
			checkParse(t, ahead+".e"+behind)
		}
	}
}

// One byte of a text is another one, is gone, or is one too many.
func TestParseOfChangedTexts(t *testing.T) {
	for _, s := range []string{"15.e-1", "-102.e+30", "0.e+0", "-0.e+0", ".inf", "-.inf", ".nan"} {
		for i := range len(s) {
			checkParse(t, s[:i]+s[i+1:])
			for b := range 256 {
				checkParse(t, s[:i]+string([]byte{byte(b)})+s[i+1:])
				checkParse(t, s[:i]+string([]byte{byte(b)})+s[i:])
				checkParse(t, s+string([]byte{byte(b)}))
			}
		}
	}
}

// ways tells whole, frac and exp by which a number is written: its point moved to every place, with noughts on either side.
func ways(digits string, exp int) [][3]string {
	var all [][3]string
	for _, ahead := range []string{"", "0", "0000000"} {
		for _, behind := range []string{"", "0", "0000000"} {
			row := ahead + digits + behind
			for point := range len(row) + 1 {
				all = append(all, [3]string{row[:point], row[point:], strconv.Itoa(exp + len(row) - point - len(behind))})
			}
		}
	}
	return all
}

func TestOneNumberHasOneText(t *testing.T) {
	for _, digits := range []string{"1", "9", "15", "101", "1000001"} {
		for _, exp := range []int{0, 1, -1, 4, -4, 1000, -1000} {
			for _, neg := range []bool{false, true} {
				want := api.Dec{Neg: neg, Digits: digits, Exp: strconv.Itoa(exp)}
				for _, way := range ways(digits, exp) {
					d, ok := Make(neg, way[0], way[1], way[2])
					if d != want || !ok || Print(d) != Print(want) {
						t.Fatalf("P5.4: Make(%v, %q) = %+v, %v, want %+v", neg, way, d, ok, want)
					}
				}
			}
		}
	}
}

// Nought has the texts of its two signs, whatever the noughts and the power.
func TestNoughtHasTwoTexts(t *testing.T) {
	found := map[string]api.Dec{}
	for _, neg := range []bool{false, true} {
		for _, whole := range []string{"", "0", "00", "0000000000"} {
			for _, frac := range []string{"", "0", "00", "0000000000"} {
				for _, exp := range exps {
					if d, ok := Make(neg, whole, frac, exp); ok {
						found[Print(d)] = d
					}
				}
			}
		}
	}
	if len(found) != 2 || found["0.e+0"] != (api.Dec{Digits: "0", Exp: "0"}) || found["-0.e+0"] != (api.Dec{Neg: true, Digits: "0", Exp: "0"}) {
		t.Errorf("P5.4: %+v", found)
	}
}

// What is printed alike is one number, and one number is printed alike.
func TestTextsTellNumbersApart(t *testing.T) {
	numbers, texted := map[string]string{}, map[string]string{}
	parts := texts(3, "012")
	for _, whole := range parts {
		for _, frac := range parts {
			for exp := -4; exp <= 4; exp++ {
				for _, sign := range []string{"", "-"} {
					d, ok := Make(sign == "-", whole, frac, strconv.Itoa(exp))
					if !ok {
						continue
					}
					// The sign is told apart even of nought.
					number := sign + scaled(t, whole+"."+frac, strconv.Itoa(exp)).String()
					text := Print(d)
					if was, ok := texted[number]; ok && was != text {
						t.Fatalf("P5.4: %s is %q and %q", number, was, text)
					}
					if was, ok := numbers[text]; ok && was != number {
						t.Fatalf("P5.4: %q is %s and %s", text, was, number)
					}
					texted[number], numbers[text] = text, number
				}
			}
		}
	}
}

// An answer is new memory, even where it is what was handed in.
func TestAnswersAreNew(t *testing.T) {
	long := strings.Repeat("9", 100)
	text := long + ".e-" + long
	want := api.Dec{Digits: long, Exp: "-" + long}
	made, _ := Make(false, long, "", want.Exp)
	parsed, _ := Parse(text)
	for i, d := range []api.Dec{made, parsed} {
		if d != want {
			t.Errorf("P5.2, P5.3: row %d: %+v", i, d)
		}
		for _, given := range []string{long, want.Exp, text, text[103:]} {
			for _, answer := range []string{d.Digits, d.Exp} {
				if unsafe.StringData(answer) == unsafe.StringData(given) {
					t.Errorf("row %d shares the argument's memory", i)
				}
			}
		}
	}
}

func TestLongDecimals(t *testing.T) {
	const length = 200_000
	noughts, ones := strings.Repeat("0", length), strings.Repeat("1", length)
	far := strconv.Itoa(length)
	for _, c := range []struct {
		whole, frac, exp string
		want             api.Dec
	}{
		{"1" + noughts, "", "0", api.Dec{Digits: "1", Exp: far}},
		{"1" + noughts, noughts, "-" + far, api.Dec{Digits: "1", Exp: "0"}},
		{noughts, noughts + "1", "1", api.Dec{Digits: "1", Exp: "-" + far}},
		{ones, "", "-" + far, api.Dec{Digits: ones, Exp: "-" + far}},
		{noughts, ones, far, api.Dec{Digits: ones, Exp: "0"}},
		{noughts, noughts, ones, api.Dec{Digits: "0", Exp: "0"}},
		{"1", "", ones, api.Dec{Digits: "1", Exp: ones}},
	} {
		d, ok := Make(false, c.whole, c.frac, c.exp)
		if d != c.want || !ok {
			t.Errorf("P5.2: long parts, power of %d digits: %v", len(c.exp), ok)
		}
		if back, ok := Parse(Print(d)); back != d || !ok {
			t.Errorf("P5.3: a long text isn't read: power of %d digits", len(c.exp))
		}
	}
}

func FuzzDecimals(f *testing.F) {
	f.Add(0, false, "01", "50", "0", "15.e-1")
	f.Add(0, true, "000", "", "-3", "-0.e+0")
	f.Add(1, true, "", "", "", "-.inf")
	f.Add(2, false, "", "0010", "99", ".nan")
	f.Add(3, true, "1x", "-2", "+1", "10.e+0")
	f.Fuzz(func(t *testing.T, kind int, neg bool, whole, frac, exp, s string) {
		checkGood(t, api.Dec{Kind: kind, Neg: neg, Digits: whole, Exp: exp})
		checkGood(t, api.Dec{Neg: neg, Digits: whole, Exp: exp})
		checkMake(t, whole, frac, exp)
		checkParse(t, s)
		checkParse(t, whole+".e+"+exp)
		checkParse(t, "-"+whole+".e"+exp)
	})
}
