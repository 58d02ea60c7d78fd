package big

import (
	"math"
	reference "math/big"
	"strconv"
	"strings"
	"testing"
	"unsafe"

	"targum/api"
)

// Steps at the edges of what is added or multiplies, and of the pieces that sums are made in.
var steps = []int{0, 1, 2, 5, 9, 10, 11, 59, 60, 99, 100, 999_999, 1_000_000, 9_999_999, 10_000_000, 10_000_001, 1<<32 - 1, 1 << 32, api.MaxStep - 1, api.MaxStep}

// Numbers that no call takes as a step.
var noSteps = []int{api.MaxStep + 1, api.MaxStep + 2, 1 << 41, 1<<62 + 1, math.MaxInt, -api.MaxStep - 1, -api.MaxStep - 2, -(1 << 41), math.MinInt, math.MinInt + 1}

// Texts that are no whole numbers.
var bad = []string{"", "-", "--", "--1", "-0", "00", "01", "-01", "-00", "007", "+0", "+1", "0-", "1-", "1-1", " 1", "1 ", "1\n", "\n1", "1_0", "1.", "1.0", "1e3", "0x1", "a", "f", "1a", "a1", "1:0", "1/", "/1", "\x00", "1\x00", "\xB1", "1\xFF", "\u0661", "1\u0661", "\uFF11", "\u22121", "123456789x123456789", strings.Repeat("9", 40) + "-", "0" + strings.Repeat("9", 40), "-0" + strings.Repeat("9", 40)}

// wholes makes whole numbers on both sides of nought, at the edges of pieces, of machine numbers and of lengths.
func wholes() []string {
	all := []string{"0"}
	for _, digits := range []string{"1", "2", "5", "9", "10", "99", "100", "101", "725", "9999999", "10000000", "10000001", "19999999", "20000000", "99999999999999", "100000000000000", "1099511627775", "1099511627776", "1099511627777", "2199023255552", "9223372036854775807", "9223372036854775808", "18446744073709551615", "18446744073709551616", "99999999999999999999", "100000000000000000000", "123456789012345678901234567890", "1" + strings.Repeat("0", 77), strings.Repeat("9", 77), strings.Repeat("90000001", 20)} {
		all = append(all, digits, "-"+digits)
	}
	return all
}

func number(t *testing.T, s string, base int) *reference.Int {
	t.Helper()
	n, ok := new(reference.Int).SetString(s, base)
	if !ok {
		t.Fatalf("%q is no number of base %d", s, base)
	}
	return n
}

// plus writes a times m, and k, down by the library.
func plus(t *testing.T, a string, m, k int) string {
	t.Helper()
	n := number(t, a, 10)
	n.Mul(n, reference.NewInt(int64(m)))
	return n.Add(n, reference.NewInt(int64(k))).String()
}

func TestGood(t *testing.T) {
	for _, a := range wholes() {
		if !Good(a) {
			t.Errorf("P4.1: %q isn't good", a)
		}
	}
	for _, a := range bad {
		if Good(a) {
			t.Errorf("P4.1: %q is good", a)
		}
	}
}

// texts makes every text of at most n of the signs.
func texts(n int, signs string) []string {
	all, last := []string{""}, []string{""}
	for range n {
		var longer []string
		for _, s := range last {
			for i := range len(signs) {
				longer = append(longer, s+signs[i:i+1])
			}
		}
		all, last = append(all, longer...), longer
	}
	return all
}

// A text is good if and only if a machine's number is written so.
func TestGoodOfShortTexts(t *testing.T) {
	for _, a := range texts(5, "-+_ 019a") {
		n, err := strconv.Atoi(a)
		want := err == nil && strconv.Itoa(n) == a
		if Good(a) != want {
			t.Errorf("P4.1: Good(%q) = %v", a, !want)
		}
	}
}

// Of single bytes, and behind a digit, the digits 0 to 9 alone are digits.
func TestEveryByte(t *testing.T) {
	for b := range 256 {
		s := string([]byte{byte(b)})
		digit := b >= '0' && b <= '9'
		if Good(s) != digit || Good("1"+s) != digit || Good("-1"+s+"1") != digit {
			t.Errorf("P4.1: Good with %q", s)
		}
		if (Norm(false, s) != "") != digit || (Norm(true, "1"+s+"1") != "") != digit {
			t.Errorf("P4.1: Norm with %q", s)
		}
		for _, base := range []int{2, 8, 16} {
			value, err := strconv.ParseUint("1"+s+"1", base, 64)
			want := ""
			if err == nil {
				want = strconv.FormatUint(value, 10)
			}
			if got := Base("1"+s+"1", base); got != want {
				t.Errorf("P4.1: Base(%q, %d) = %q, want %q", "1"+s+"1", base, got, want)
			}
		}
	}
}

func TestNorm(t *testing.T) {
	for _, c := range []struct {
		neg          bool
		digits, want string
	}{
		{true, "007", "-7"},
		{false, "007", "7"},
		{false, "0", "0"},
		{true, "0", "0"},
		{false, "000", "0"},
		{true, "000", "0"},
		{false, "7", "7"},
		{true, "7", "-7"},
		{false, "0010", "10"},
		{true, "0010", "-10"},
		{false, "100", "100"},
		{true, "100", "-100"},
		{true, strings.Repeat("0", 30) + strings.Repeat("9", 30), "-" + strings.Repeat("9", 30)},
		{false, strings.Repeat("0", 30), "0"},
	} {
		if got := Norm(c.neg, c.digits); got != c.want {
			t.Errorf("P4.1: Norm(%v, %q) = %q, want %q", c.neg, c.digits, got, c.want)
		}
	}
	for _, digits := range []string{"", "-", "-1", "+1", "-0", "0-", "a", "1a", "a1", "00x", "0x1", "1_0", " 1", "1 ", "1.0", "1\x00", "\u0661", "\uFF11", strings.Repeat("0", 40) + "f"} {
		for _, neg := range []bool{false, true} {
			if got := Norm(neg, digits); got != "" {
				t.Errorf("P4.1: Norm(%v, %q) = %q", neg, digits, got)
			}
		}
	}
}

// A whole number says itself.
func TestNormOfWholes(t *testing.T) {
	for _, a := range wholes() {
		digits, neg := strings.CutPrefix(a, "-")
		for _, ahead := range []string{"", "0", "0000000000"} {
			if got := Norm(neg, ahead+digits); got != a {
				t.Errorf("P4.1: Norm(%v, %q) = %q, want %q", neg, ahead+digits, got, a)
			}
		}
	}
}

func TestBase(t *testing.T) {
	for _, c := range []struct {
		digits string
		base   int
		want   string
	}{
		{"ff", 16, "255"},
		{"FF", 16, "255"},
		{"fF", 16, "255"},
		{"abcdef", 16, "11259375"},
		{"ABCDEF", 16, "11259375"},
		{"0123456789", 16, "4886718345"},
		{"10", 16, "16"},
		{"10", 8, "8"},
		{"10", 2, "2"},
		{"0", 2, "0"},
		{"1", 2, "1"},
		{"0", 8, "0"},
		{"7", 8, "7"},
		{"0", 16, "0"},
		{"000", 2, "0"},
		{"0007", 8, "7"},
		{"00001", 2, "1"},
		{"00ff", 16, "255"},
		{strings.Repeat("0", 100) + "1", 16, "1"},
		{strings.Repeat("0", 100), 8, "0"},
		{"1" + strings.Repeat("0", 64), 2, "18446744073709551616"},
		{"2" + strings.Repeat("0", 21), 8, "18446744073709551616"},
		{"1" + strings.Repeat("0", 16), 16, "18446744073709551616"},
	} {
		if got := Base(c.digits, c.base); got != c.want {
			t.Errorf("P4.1: Base(%q, %d) = %q, want %q", c.digits, c.base, got, c.want)
		}
	}
}

func TestBaseOfNone(t *testing.T) {
	for _, base := range []int{2, 8, 16} {
		for _, digits := range []string{"", "-", "-1", "+1", "g", "G", "z", "1g", "g1", "1_0", "0x1", "0o1", " 1", "1 ", "1\n", ":", "/", "@", "`", "1.0", "\x00", "\u0661", "\uFF11", strings.Repeat("1", 50) + "_", "_" + strings.Repeat("1", 50)} {
			if got := Base(digits, base); got != "" {
				t.Errorf("P4.1: Base(%q, %d) = %q", digits, base, got)
			}
		}
	}
	for _, c := range []struct {
		digits string
		base   int
	}{{"2", 2}, {"102", 2}, {"9", 2}, {"a", 2}, {"8", 8}, {"9", 8}, {"178", 8}, {"a", 8}, {strings.Repeat("1", 50) + "2", 2}, {strings.Repeat("7", 50) + "8", 8}, {"0b1", 2}} {
		if got := Base(c.digits, c.base); got != "" {
			t.Errorf("P4.1: Base(%q, %d) = %q", c.digits, c.base, got)
		}
	}
	for _, base := range []int{0, 1, 3, 4, 7, 9, 10, 15, 17, 32, 36, 60, 64, 99, 100, -2, -8, -16, 1<<32 + 2, 1<<32 + 16, math.MaxInt, math.MinInt} {
		for _, digits := range []string{"", "0", "1", "10", "ff"} {
			if got := Base(digits, base); got != "" {
				t.Errorf("P4.1: Base(%q, %d) = %q", digits, base, got)
			}
		}
	}
}

// Every length has its own last step: of as many digits as are left over.
func TestBaseOfEveryLength(t *testing.T) {
	for base, signs := range map[int]string{2: "1011001", 8: "7051342600", 16: "f0E9d1C8b2A7063540000000"} {
		for length := 1; length <= 200; length++ {
			for from := range min(length, len(signs)) {
				digits := strings.Repeat(signs, length/len(signs)+2)[from : from+length]
				want := number(t, digits, base).String()
				if got := Base(digits, base); got != want {
					t.Fatalf("P4.1: Base(%q, %d) = %q, want %q", digits, base, got, want)
				}
			}
		}
	}
}

func TestMulAdd(t *testing.T) {
	if got := MulAdd("12", 60, 5); got != "725" {
		t.Errorf("P4.2: %q", got)
	}
	for _, a := range wholes() {
		for _, m := range steps {
			for _, k := range steps {
				want := ""
				if a[0] != '-' {
					want = plus(t, a, m, k)
				}
				if got := MulAdd(a, m, k); got != want {
					t.Fatalf("P4.2: MulAdd(%q, %d, %d) = %q, want %q", a, m, k, got, want)
				}
			}
		}
	}
}

func TestMulAddOfNone(t *testing.T) {
	for _, a := range bad {
		for _, m := range steps {
			if got := MulAdd(a, m, 0); got != "" {
				t.Errorf("P4.2: MulAdd(%q, %d, 0) = %q", a, m, got)
			}
		}
	}
	for _, a := range append(wholes(), bad...) {
		for _, n := range append(noSteps, -1, -2, -60, -api.MaxStep) {
			for _, step := range []int{0, 1, api.MaxStep, n} {
				if got := MulAdd(a, n, step); got != "" {
					t.Errorf("P4.2: MulAdd(%q, %d, %d) = %q", a, n, step, got)
				}
				if got := MulAdd(a, step, n); got != "" {
					t.Errorf("P4.2: MulAdd(%q, %d, %d) = %q", a, step, n, got)
				}
			}
		}
	}
}

func TestAdd(t *testing.T) {
	if got := Add("1", -2); got != "-1" {
		t.Errorf("P4.2: %q", got)
	}
	for _, a := range wholes() {
		for _, step := range steps {
			for _, n := range []int{step, -step} {
				if got, want := Add(a, n), plus(t, a, 1, n); got != want {
					t.Errorf("P4.2: Add(%q, %d) = %q, want %q", a, n, got, want)
				}
			}
		}
	}
}

// Around nought, and from one length to the next.
func TestAddOfSmall(t *testing.T) {
	for a := -130; a <= 130; a++ {
		for n := -130; n <= 130; n++ {
			if got, want := Add(strconv.Itoa(a), n), strconv.Itoa(a+n); got != want {
				t.Fatalf("P4.2: Add(%d, %d) = %q", a, n, got)
			}
		}
	}
	const edge = api.MaxStep
	for a := edge - 130; a <= edge+130; a++ {
		for _, n := range []int{edge - 1, edge, 1 - edge, -edge} {
			if got, want := Add(strconv.Itoa(a), n), strconv.Itoa(a+n); got != want {
				t.Fatalf("P4.2: Add(%d, %d) = %q", a, n, got)
			}
			if got, want := Add(strconv.Itoa(-a), n), strconv.Itoa(n-a); got != want {
				t.Fatalf("P4.2: Add(%d, %d) = %q", -a, n, got)
			}
		}
	}
}

func TestAddOfNone(t *testing.T) {
	for _, a := range bad {
		for _, n := range steps {
			if got := Add(a, n) + Add(a, -n); got != "" {
				t.Errorf("P4.2: Add(%q, %d) = %q", a, n, got)
			}
		}
	}
	for _, a := range append(wholes(), bad...) {
		for _, n := range noSteps {
			if got := Add(a, n); got != "" {
				t.Errorf("P4.2: Add(%q, %d) = %q", a, n, got)
			}
		}
	}
}

func TestCompare(t *testing.T) {
	all := wholes()
	for n := -120; n <= 120; n++ {
		all = append(all, strconv.Itoa(n))
	}
	for _, a := range all {
		for _, b := range all {
			want := number(t, a, 10).Cmp(number(t, b, 10))
			if got := Compare(a, b); got != want {
				t.Errorf("P4.2: Compare(%q, %q) = %d, want %d", a, b, got, want)
			}
		}
	}
	for _, a := range append(all, bad...) {
		for _, b := range bad {
			if Compare(a, b) != 0 || Compare(b, a) != 0 {
				t.Errorf("P4.2: Compare of %q and %q: %d, %d", a, b, Compare(a, b), Compare(b, a))
			}
		}
	}
}

// checkBases writes n in every base, small and great, with noughts ahead or not, and digit by digit: P4.3.
func checkBases(t *testing.T, n *reference.Int) {
	t.Helper()
	want := n.String()
	for _, ahead := range []string{"", "0", "0000000000000000000"} {
		if got := Norm(false, ahead+want); got != want {
			t.Fatalf("P4.3: Norm(%q) = %q", ahead+want, got)
		}
		for _, base := range []int{2, 8, 16} {
			digits := ahead + n.Text(base)
			if got := Base(digits, base); got != want {
				t.Fatalf("P4.3: Base(%q, %d) = %q, want %q", digits, base, got, want)
			}
			if got := Base(strings.ToUpper(digits), base); got != want {
				t.Fatalf("P4.3: Base(%q, %d) = %q, want %q", strings.ToUpper(digits), base, got, want)
			}
		}
	}
	for _, base := range []int{2, 8, 10, 16, 60} {
		sum := "0"
		for _, digit := range n.Text(base) {
			sum = MulAdd(sum, base, worth(digit))
		}
		if sum != want {
			t.Fatalf("P4.3: %s of base %d, digit by digit: %q, want %q", n.Text(base), base, sum, want)
		}
	}
}

// worth tells what a digit of the library's texts is worth.
func worth(digit rune) int {
	switch {
	case digit <= '9':
		return int(digit - '0')
	case digit <= 'Z':
		return int(digit-'A') + 36
	}
	return int(digit-'a') + 10
}

func TestBasesSayOneNumber(t *testing.T) {
	for n := range int64(1000) {
		checkBases(t, reference.NewInt(n))
	}
	for _, a := range wholes() {
		n := number(t, a, 10)
		checkBases(t, n.Abs(n))
	}
	for shift := range uint(200) {
		power := new(reference.Int).Lsh(reference.NewInt(1), shift)
		checkBases(t, power)
		checkBases(t, power.Sub(power, reference.NewInt(1)))
	}
}

// An answer is new memory, even where it is what was handed in.
func TestAnswersAreNew(t *testing.T) {
	long := strings.Repeat("9", 100)
	for i, answer := range []string{Norm(false, long), Norm(true, long)[1:], MulAdd(long, 1, 0), Add(long, 0), Add("-"+long, 0)[1:]} {
		if answer != long {
			t.Errorf("P4.1, P4.2: row %d: %q", i, answer)
		}
		if unsafe.StringData(answer) == unsafe.StringData(long) {
			t.Errorf("row %d shares the argument's memory", i)
		}
	}
	ahead := "000" + long
	if unsafe.StringData(Norm(false, ahead)) == unsafe.StringData(ahead[3:]) {
		t.Error("Norm shares the argument's memory")
	}
}

func TestLongNumbers(t *testing.T) {
	const length = 20_000
	nines, power := strings.Repeat("9", length), "1"+strings.Repeat("0", length)
	if Add(nines, 1) != power || Add("-"+nines, -1) != "-"+power {
		t.Error("P4.2: a carry through all digits")
	}
	if Add(power, -1) != nines || Add("-"+power, 1) != "-"+nines {
		t.Error("P4.2: a borrow through all digits")
	}
	if Compare(nines, power) != -1 || Compare("-"+nines, "-"+power) != 1 || Compare(power, power) != 0 {
		t.Error("P4.2: Compare of long numbers")
	}
	if got, want := MulAdd(nines, api.MaxStep, api.MaxStep), strconv.Itoa(api.MaxStep)+strings.Repeat("0", length); got != want {
		t.Error("P4.2: MulAdd of a long number")
	}
	for base, digit := range map[int]string{2: "1", 8: "7", 16: "f"} {
		digits := strings.Repeat(digit, length)
		if Base(digits, base) != number(t, digits, base).String() {
			t.Errorf("P4.1: long digits of base %d", base)
		}
	}
}

func FuzzWholes(f *testing.F) {
	f.Add("007", "ff", 60, 5)
	f.Add("-12", "-13", -7, api.MaxStep)
	f.Add("99999999999999999999", "100000000000000000000", api.MaxStep, 1)
	f.Add("", "-0", api.MaxStep+1, math.MinInt)
	f.Fuzz(func(t *testing.T, a, b string, m, k int) {
		checkNumber(t, a, m, k)
		checkNumber(t, b, k, m)
		want := 0
		if slowGood(a) && slowGood(b) {
			want = number(t, a, 10).Cmp(number(t, b, 10))
		}
		if got := Compare(a, b); got != want {
			t.Fatalf("P4.2: Compare(%q, %q) = %d, want %d", a, b, got, want)
		}
	})
}

// slowGood: a whole number is what the library reads and writes so.
func slowGood(a string) bool {
	n, ok := new(reference.Int).SetString(a, 10)
	return ok && n.String() == a
}

func checkNumber(t *testing.T, a string, m, k int) {
	t.Helper()
	good := slowGood(a)
	if Good(a) != good {
		t.Fatalf("P4.1: Good(%q) = %v", a, !good)
	}
	want := ""
	if good && a[0] != '-' && m >= 0 && m <= api.MaxStep && k >= 0 && k <= api.MaxStep {
		want = plus(t, a, m, k)
	}
	if got := MulAdd(a, m, k); got != want {
		t.Fatalf("P4.2: MulAdd(%q, %d, %d) = %q, want %q", a, m, k, got, want)
	}
	want = ""
	if good && k >= -api.MaxStep && k <= api.MaxStep {
		want = plus(t, a, 1, k)
	}
	if got := Add(a, k); got != want {
		t.Fatalf("P4.2: Add(%q, %d) = %q, want %q", a, k, got, want)
	}
	checkDigits(t, a)
}

// checkDigits reads a in every base; the library reads signs too, but no digits are those.
func checkDigits(t *testing.T, a string) {
	t.Helper()
	for _, base := range []int{2, 8, 10, 16} {
		want := ""
		if n, ok := new(reference.Int).SetString(a, base); ok && !strings.ContainsAny(a, "+-") {
			want = n.String()
		}
		got := Base(a, base)
		if base == 10 {
			got = Norm(false, a)
		}
		if got != want {
			t.Fatalf("P4.1: %q of base %d: %q, want %q", a, base, got, want)
		}
	}
	if want := Norm(false, a); want != "" && want != "0" && Norm(true, a) != "-"+want {
		t.Fatalf("P4.1: Norm(true, %q) = %q", a, Norm(true, a))
	}
}
