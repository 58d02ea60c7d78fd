package resolve

import (
	"math"
	"regexp"
	"slices"
	"strings"
	"testing"
	"unsafe"

	"targum/api"
	"targum/dec"
	"targum/float11"
	"targum/int11"
	"targum/num12"
	"targum/stamp"
)

// The forms of all that is no text, as the chapters of the layers below tell them. That of a moment doesn't ask whether there was such a day.
var (
	ofNull     = regexp.MustCompile(`\A(?:~|null|Null|NULL)?\z`)
	ofTrue     = regexp.MustCompile(`\A(?:true|True|TRUE)\z`)
	ofFalse    = regexp.MustCompile(`\A(?:false|False|FALSE)\z`)
	ofOldTrue  = regexp.MustCompile(`\A(?:y|Y|yes|Yes|YES|on|On|ON)\z`)
	ofOldFalse = regexp.MustCompile(`\A(?:n|N|no|No|NO|off|Off|OFF)\z`)
	ofOldInt   = regexp.MustCompile(`\A[+-]?(?:0b_*[01][01_]*|0x_*[0-9a-fA-F][0-9a-fA-F_]*|0_*[0-7][0-7_]*|0|[1-9][0-9_]*(?::[0-5]?[0-9]|:[6-9])*)\z`)
	ofOldFloat = regexp.MustCompile(`\A(?:[+-]?(?:(?:[0-9][0-9_]*\.[0-9_]*|\._*[0-9][0-9_]*)(?:[eE][+-][0-9]+)?|[0-9][0-9_]*(?::[0-5]?[0-9]|:[6-9])+\.[0-9_]*|\.inf|\.Inf|\.INF)|\.nan|\.NaN|\.NAN)\z`)
	ofMoment   = regexp.MustCompile(`\A[0-9]{4}-(?:[0-9]{2}-[0-9]{2}|[0-9]{1,2}-[0-9]{1,2}(?:[Tt]|[ \t]+)[0-9]{1,2}:[0-9]{2}:[0-9]{2}(?:\.[0-9]*)?(?:[ \t]*(?:Z|[+-][0-9]{1,2}(?::[0-9]{2})?))?)\z`)
	ofNewInt   = regexp.MustCompile(`\A(?:[+-]?[0-9]+|0o[0-7]+|0x[0-9a-fA-F]+)\z`)
	ofNewFloat = regexp.MustCompile(`\A(?:[+-]?(?:(?:\.[0-9]+|[0-9]+(?:\.[0-9]*)?)(?:[eE][+-]?[0-9]+)?|\.inf|\.Inf|\.INF)|\.nan|\.NaN|\.NAN)\z`)
)

// Any number but V11 counts as V12.
var newVersions = []int{api.V12, 0, 1, -1, 10, 13, -api.V11, -api.V12, api.V11 + 1<<8, api.V11 + 1<<32, math.MinInt, math.MaxInt}

// Texts of every kind, at the edges of each.
var written = []string{
	"", "~", "null", "Null", "NULL", "true", "True", "TRUE", "false", "False", "FALSE",
	"y", "Y", "yes", "Yes", "YES", "on", "On", "ON", "n", "N", "no", "No", "NO", "off", "Off", "OFF", "<<",
	"0", "-0", "+00", "9", "-10", "010", "-0_17", "0o17", "0b1_0", "-0b11", "0x1F", "+0xf_F", "1_000", "1:30", "-19:59:9", "08", "0_8",
	"1.", "-0.0", "+1_0.5_0", "1.5e+3", "1e3", "-1E-3", ".5", "._5", "-.5e-10", "1:30.5", "0:0:1.", ".inf", "-.Inf", "+.INF", ".nan", ".NaN", ".NAN", "15.e-1",
	"2001-01-01", "2001-1-1", "1900-02-29", "0000-02-29", "2001-12-14t21:59:43.10-05:00", "2001-1-1 \t 0:00:00 +1", "0000-01-01T00:00:00+1", "2001-01-01T00:00:00Z",
	"abc", "a b", "1.5.5", "a:b", "\u00E9", "\x00",
}

// texts makes every text of at most n of the signs.
func texts(n int, signs string) []string {
	all, last := []string{""}, []string{""}
	for range n {
		var longer []string
		for _, s := range last {
			for i := range len(signs) {
				longer = append(longer, s+signs[i:i+1])
			}
		}
		all, last = append(all, longer...), longer
	}
	return all
}

// kind is a type, what tells its texts, and what makes its canonical one of them.
type kind struct {
	tag  string
	is   func(string) bool
	text func(string) string
}

// always makes one text of all.
func always(text string) func(string) string {
	return func(string) string { return text }
}

// first takes what is told with a true or a false.
func first(tell func(string) (string, bool)) func(string) string {
	return func(s string) string {
		text, _ := tell(s)
		return text
	}
}

// printed makes the text of the decimal that is told.
func printed(tell func(string) (api.Dec, bool)) func(string) string {
	return func(s string) string {
		d, _ := tell(s)
		return dec.Print(d)
	}
}

// isMoment asks stamp whether there was such a day.
func isMoment(s string) bool {
	return ofMoment.MatchString(s) && stamp.Is(s)
}

// The kinds that each version knows, the first one ahead of the others.
func oldKinds() []kind {
	return []kind{
		{api.Null, ofNull.MatchString, always("")},
		{api.Bool, ofTrue.MatchString, always("true")},
		{api.Bool, ofFalse.MatchString, always("false")},
		{api.Bool, ofOldTrue.MatchString, always("true")},
		{api.Bool, ofOldFalse.MatchString, always("false")},
		{api.Int, ofOldInt.MatchString, first(int11.Of)},
		{api.Float, ofOldFloat.MatchString, printed(float11.Of)},
		{api.Time, isMoment, first(stamp.Of)},
	}
}

func newKinds() []kind {
	return []kind{
		{api.Null, ofNull.MatchString, always("")},
		{api.Bool, ofTrue.MatchString, always("true")},
		{api.Bool, ofFalse.MatchString, always("false")},
		{api.Int, ofNewInt.MatchString, first(num12.Int)},
		{api.Float, ofNewFloat.MatchString, printed(num12.Float)},
	}
}

// slowPlain goes over the kinds one by one.
func slowPlain(kinds []kind, s string) api.Value {
	for _, k := range kinds {
		if k.is(s) {
			return api.Value{Tag: k.tag, Text: k.text(s)}
		}
	}
	return api.Value{Tag: "tag:yaml.org,2002:str", Text: s}
}

// check holds both calls against the chapter's order of kinds.
func check(t *testing.T, s string) {
	t.Helper()
	old, young := slowPlain(oldKinds(), s), slowPlain(newKinds(), s)
	if got := Plain(api.V11, s); got != old {
		t.Fatalf("P13.1: Plain(V11, %q) = %q, want %q", s, got, old)
	}
	if got := Plain(api.V12, s); got != young {
		t.Fatalf("P13.1: Plain(V12, %q) = %q, want %q", s, got, young)
	}
	if got := Alike(s); got != (old == young) {
		t.Fatalf("P13.2: Alike(%q) = %v: %q and %q", s, got, old, young)
	}
	if old.Tag == api.Str && young.Tag == api.Str && !Alike(s) {
		t.Fatalf("P13.3: %q is a text in both versions, and not alike", s)
	}
	checkAgain(t, Plain(api.V11, s))
	checkAgain(t, Plain(api.V12, s))
}

// checkAgain asks whether a canonical text is that value in both versions: the old schema alone has moments, and a text may be anything in the other version.
func checkAgain(t *testing.T, value api.Value) {
	t.Helper()
	if value.Tag == api.Str {
		return
	}
	if got := Plain(api.V11, value.Text); got != value {
		t.Fatalf("P13.1: Plain(V11, %q) = %q, want %q", value.Text, got, value)
	}
	if value.Tag == api.Time {
		value.Tag = api.Str
	}
	if got := Plain(api.V12, value.Text); got != value {
		t.Fatalf("P13.1: Plain(V12, %q) = %q, want %q", value.Text, got, value)
	}
}

func str(s string) api.Value   { return api.Value{Tag: "tag:yaml.org,2002:str", Text: s} }
func truth(s string) api.Value { return api.Value{Tag: "tag:yaml.org,2002:bool", Text: s} }
func whole(s string) api.Value { return api.Value{Tag: "tag:yaml.org,2002:int", Text: s} }
func part(s string) api.Value  { return api.Value{Tag: "tag:yaml.org,2002:float", Text: s} }
func when(s string) api.Value  { return api.Value{Tag: "tag:yaml.org,2002:timestamp", Text: s} }

var null = api.Value{Tag: "tag:yaml.org,2002:null"}

// both holds the values of one text in both versions against what is asked.
func both(t *testing.T, s string, old, young api.Value) {
	t.Helper()
	if got := Plain(api.V11, s); got != old {
		t.Errorf("P13.1: Plain(V11, %q) = %q, want %q", s, got, old)
	}
	if got := Plain(api.V12, s); got != young {
		t.Errorf("P13.1: Plain(V12, %q) = %q, want %q", s, got, young)
	}
	if got := Alike(s); got != (old == young) {
		t.Errorf("P13.2: Alike(%q) = %v", s, got)
	}
	check(t, s)
}

func TestExamplesOfTheChapter(t *testing.T) {
	if got := Plain(api.V11, "yes"); got != truth("true") {
		t.Errorf("P13.1: Plain(V11, yes) = %q", got)
	}
	if got := Plain(api.V12, "0o17"); got != whole("15") {
		t.Errorf("P13.1: Plain(V12, 0o17) = %q", got)
	}
	if Alike("010") {
		t.Errorf("P13.2: 010 is 8 in the old schema and 10 in the new one")
	}
}

// What both versions have the same of.
func TestTheSameOfBoth(t *testing.T) {
	for _, c := range []struct {
		s     string
		value api.Value
	}{
		{"", null},
		{"~", null},
		{"null", null},
		{"Null", null},
		{"NULL", null},
		{"true", truth("true")},
		{"True", truth("true")},
		{"TRUE", truth("true")},
		{"false", truth("false")},
		{"False", truth("false")},
		{"FALSE", truth("false")},
		{"0", whole("0")},
		{"-0", whole("0")},
		{"+0", whole("0")},
		{"00", whole("0")},
		{"07", whole("7")},
		{"-7", whole("-7")},
		{"+12", whole("12")},
		{"18446744073709551616", whole("18446744073709551616")},
		{"0x1F", whole("31")},
		{"0x0", whole("0")},
		{"1.", part("1.e+0")},
		{"1.5", part("15.e-1")},
		{"-1.50", part("-15.e-1")},
		{"+.5", part("5.e-1")},
		{"-0.0", part("-0.e+0")},
		{"0.0", part("0.e+0")},
		{"1.5e+3", part("15.e+2")},
		{"15.e-1", part("15.e-1")},
		{"010.5", part("105.e-1")},
		{".inf", part(".inf")},
		{"+.INF", part(".inf")},
		{"-.Inf", part("-.inf")},
		{".nan", part(".nan")},
		{".NaN", part(".nan")},
		{".NAN", part(".nan")},
	} {
		both(t, c.s, c.value, c.value)
	}
}

// What is something in one version and something else, or a text, in the other one.
func TestApart(t *testing.T) {
	for _, c := range []struct {
		s          string
		old, young api.Value
	}{
		{"y", truth("true"), str("y")},
		{"Yes", truth("true"), str("Yes")},
		{"ON", truth("true"), str("ON")},
		{"N", truth("false"), str("N")},
		{"no", truth("false"), str("no")},
		{"Off", truth("false"), str("Off")},
		{"010", whole("8"), whole("10")},
		{"-010", whole("-8"), whole("-10")},
		{"+0017", whole("15"), whole("17")},
		{"0b11", whole("3"), str("0b11")},
		{"0_7", whole("7"), str("0_7")},
		{"-0x1", whole("-1"), str("-0x1")},
		{"+0x1", whole("1"), str("+0x1")},
		{"0x_f", whole("15"), str("0x_f")},
		{"1_000", whole("1000"), str("1_000")},
		{"1:30", whole("90"), str("1:30")},
		{"-190:20:30", whole("-685230"), str("-190:20:30")},
		{"1:9", whole("69"), str("1:9")},
		{"0o17", str("0o17"), whole("15")},
		{"0o0", str("0o0"), whole("0")},
		{"08", str("08"), whole("8")},
		{"-019", str("-019"), whole("-19")},
		{"1e3", str("1e3"), part("1.e+3")},
		{"1.5e3", str("1.5e3"), part("15.e+2")},
		{"1E+3", str("1E+3"), part("1.e+3")},
		{"-2e-1", str("-2e-1"), part("-2.e-1")},
		{"._5", part("5.e-1"), str("._5")},
		{"1_0.5", part("105.e-1"), str("1_0.5")},
		{"1._", part("1.e+0"), str("1._")},
		{"1:30.5", part("905.e-1"), str("1:30.5")},
		{"-0:0.", part("-0.e+0"), str("-0:0.")},
		{"2001-01-01", when("2001-01-01"), str("2001-01-01")},
		{"2000-02-29", when("2000-02-29"), str("2000-02-29")},
		{"2001-1-1 0:00:00", when("2001-01-01T00:00:00Z"), str("2001-1-1 0:00:00")},
		{"2001-12-14t21:59:43.10-05:00", when("2001-12-15T02:59:43.1Z"), str("2001-12-14t21:59:43.10-05:00")},
	} {
		both(t, c.s, c.old, c.young)
		if Alike(c.s) {
			t.Errorf("P13.3: %q is not the same of both", c.s)
		}
	}
}

// What is a text in both versions is that text.
func TestTexts(t *testing.T) {
	for _, s := range []string{
		"<<", "<", "abc", "a", "tRUE", "truE", "yEs", "oN", "oFF", "nULL", "nul", "nulls", "~~", "~ ", " ~", " ", "\t", "\n", " yes", "yes ", "true ", " null", "none", "nil", "t", "f", "T", "F",
		"+", "-", "--1", "+-1", "1-", "1+", "1 ", " 1", "1\n", "0x", "0b", "0o", "0b2", "0o8", "0xg", "0X1", "0B1", "0O7", "-0o7", "+0o17", "-0_b", "_1", "__", "0__x", "1:60", "1:", ":30", "1:300", "0:30", "01:30", "1:30:", "1::30",
		".", "..", "+.", "._", "-._", "1e", "1e+", "e3", ".e3", "1.5.5", "1.5e", "1:30.5e+1", "0x1.", "0o7.5", "1,5", ".iNf", "inf", "nan", "NaN", "-.nan", "+.NaN", ".infinity", "--.inf",
		"2001-1-1", "2001-13-01", "1900-02-29", "2001-02-30", "2001-01-01T", "2001-01-01T24:00:00", "2001-01-01 0:00", "0000-01-01T00:00:00+1", "9999-12-31T23:59:59-1", "12001-01-01", "-2001-01-01", "2001-01-01 ",
		"!", "!!int 1", "'yes'", "\"yes\"", "*a", "&a", "=", "#", "a b", "a: b", "\u00E9", "\u0661", "\uFF11", "\u2028", "\uFEFF1", "\x00", "1\x00", "\xFF", "1\xFF", "yes\x00", "\xC5\xB3",
	} {
		both(t, s, str(s), str(s))
		if !Alike(s) {
			t.Errorf("P13.3: the text %q is not the same of both", s)
		}
	}
}

// Every number that is no version asks for the new one.
func TestVersions(t *testing.T) {
	for _, s := range written {
		want := slowPlain(newKinds(), s)
		for _, v := range newVersions {
			if got := Plain(v, s); got != want {
				t.Errorf("P13.1: Plain(%d, %q) = %q, want %q", v, s, got, want)
			}
		}
	}
}

// The tags are what api has for them, and each is told of some text.
func TestTags(t *testing.T) {
	for v, want := range map[int][]string{
		api.V11: {api.Bool, api.Float, api.Int, api.Null, api.Str, api.Time},
		api.V12: {api.Bool, api.Float, api.Int, api.Null, api.Str},
	} {
		var tags []string
		for _, s := range written {
			tags = append(tags, Plain(v, s).Tag)
		}
		slices.Sort(tags)
		if tags = slices.Compact(tags); !slices.Equal(tags, want) {
			t.Errorf("P13.1: of version %d there are the tags %q, want %q", v, tags, want)
		}
	}
}

// Every short text of the signs of which numbers and words are made.
func TestShortTexts(t *testing.T) {
	for _, s := range texts(5, "-+018._e") {
		check(t, s)
	}
	for _, s := range texts(4, "-+0179:._eExobf~ ") {
		check(t, s)
	}
	for _, s := range texts(4, "nNoOfFyYeEsS") {
		check(t, s)
	}
	for _, s := range texts(4, ".-inIaNfF") {
		check(t, s)
	}
}

// Every way of small and great letters of each word.
func TestLettersOfWords(t *testing.T) {
	for _, word := range []string{"null", "true", "false", "yes", "no", "on", "off", "y", "n", ".inf", "-.inf", "+.inf", ".nan", "-.nan"} {
		for great := range 1 << len(word) {
			letters := []byte(word)
			for i := range letters {
				if great>>i&1 == 1 {
					letters[i] = strings.ToUpper(word[i : i+1])[0]
				}
			}
			check(t, string(letters))
		}
	}
}

// Every byte, alone, and in the place of, ahead of and behind each byte of texts of every kind.
func TestEveryByte(t *testing.T) {
	for b := range 256 {
		sign := string([]byte{byte(b)})
		check(t, sign)
		check(t, sign+sign)
		for _, s := range written {
			for i := range len(s) {
				check(t, s[:i]+sign+s[i+1:])
				check(t, s[:i]+sign+s[i:])
			}
			check(t, s+sign)
		}
	}
}

// The text is cut off, or one byte is gone.
func TestCutTexts(t *testing.T) {
	for _, s := range written {
		check(t, s)
		for i := range len(s) {
			check(t, s[:i])
			check(t, s[i:])
			check(t, s[:i]+s[i+1:])
		}
	}
}

// A part of one kind behind a part of another.
func TestJoinedTexts(t *testing.T) {
	for _, a := range written {
		for _, b := range written {
			check(t, a+b)
			check(t, a+" "+b)
			check(t, a+":"+b)
		}
	}
}

// Numbers that no machine number holds are exact, and long texts are told in time.
func TestVeryLongTexts(t *testing.T) {
	const length = 200_000
	ones, noughts := strings.Repeat("1", length), strings.Repeat("0", length)
	for _, c := range []struct {
		s          string
		old, young api.Value
	}{
		{ones, whole(ones), whole(ones)},
		{"-" + ones, whole("-" + ones), whole("-" + ones)},
		{noughts + "10", whole("8"), whole("10")},
		{noughts + "9", str(noughts + "9"), whole("9")},
		{"0o" + noughts + "17", str("0o" + noughts + "17"), whole("15")},
		{"0b" + noughts + "11", whole("3"), str("0b" + noughts + "11")},
		{ones + "." + ones, part(ones + ones + ".e-200000"), part(ones + ones + ".e-200000")},
		{"1" + noughts + ".", part("1.e+200000"), part("1.e+200000")},
		{"1e" + ones, str("1e" + ones), part("1.e+" + ones)},
		{"1.e+" + ones, part("1.e+" + ones), part("1.e+" + ones)},
		{"2001-01-01 00:00:00." + ones + noughts, when("2001-01-01T00:00:00." + ones + "Z"), str("2001-01-01 00:00:00." + ones + noughts)},
		{ones + "x", str(ones + "x"), str(ones + "x")},
		{strings.Repeat("yes", length), str(strings.Repeat("yes", length)), str(strings.Repeat("yes", length))},
		{strings.Repeat(" ", length), str(strings.Repeat(" ", length)), str(strings.Repeat(" ", length))},
	} {
		if got := Plain(api.V11, c.s); got != c.old {
			t.Errorf("P13.1: of V11 %q.. is another value", c.s[:20])
		}
		if got := Plain(api.V12, c.s); got != c.young {
			t.Errorf("P13.1: of V12 %q.. is another value", c.s[:20])
		}
		if Alike(c.s) != (c.old == c.young) {
			t.Errorf("P13.2: Alike(%q..) = %v", c.s[:20], Alike(c.s))
		}
	}
}

// An answer is new memory, even where it is the text that was handed in.
func TestAnswersAreNew(t *testing.T) {
	long := strings.Repeat("9", 100)
	for _, s := range []string{"a", "abc" + long, long, "-" + long, "+" + long, long + ".5", "1." + long + "e+1", "1e" + long, "2001-01-01", "2001-01-01T00:00:00." + long + "Z", "0b1", "0o1"} {
		for _, v := range []int{api.V11, api.V12} {
			got := Plain(v, s)
			for i := range len(s) {
				if unsafe.StringData(got.Text) == unsafe.StringData(s[i:]) {
					t.Errorf("Plain(%d, %q) shares the argument's memory", v, s)
				}
			}
		}
	}
}

func FuzzPlain(f *testing.F) {
	for _, s := range written {
		f.Add(s)
	}
	f.Fuzz(check)
}
