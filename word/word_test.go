package word

import (
	"math"
	"regexp"
	"slices"
	"strings"
	"testing"

	"targum/api"
)

// The chapter's words: those of both versions, and those of V11 alone.
var (
	bothTrue  = []string{"true", "True", "TRUE"}
	bothFalse = []string{"false", "False", "FALSE"}
	onlyTrue  = []string{"y", "Y", "yes", "Yes", "YES", "on", "On", "ON"}
	onlyFalse = []string{"n", "N", "no", "No", "NO", "off", "Off", "OFF"}
	nulls     = []string{"", "~", "null", "Null", "NULL"}
)

// Any number but V11 counts as V12.
var newVersions = []int{api.V12, 0, 1, -1, 10, 13, -api.V11, -api.V12, 1 << 8, api.V11 + 1<<8, math.MinInt, math.MaxInt}

var ofPlain = regexp.MustCompile(`\A[a-zA-Z][a-zA-Z0-9_-]{0,39}\z`)

func words() []string {
	return slices.Concat(bothTrue, bothFalse, onlyTrue, onlyFalse, nulls, []string{"<<"})
}

func slowBool(v int, s string) (bool, bool) {
	switch {
	case slices.Contains(bothTrue, s):
		return true, true
	case slices.Contains(bothFalse, s):
		return false, true
	case v == api.V11 && slices.Contains(onlyTrue, s):
		return true, true
	case v == api.V11 && slices.Contains(onlyFalse, s):
		return false, true
	}
	return false, false
}

func slowPlain(s string) bool {
	_, old := slowBool(api.V11, s)
	_, young := slowBool(api.V12, s)
	return ofPlain.MatchString(s) && !old && !young && !slices.Contains(nulls, s)
}

// check holds every call against the chapter's lists, and the old version's answer against the new one's.
func check(t *testing.T, s string) {
	t.Helper()
	says, ok := Bool(api.V11, s)
	if want, is := slowBool(api.V11, s); says != want || ok != is {
		t.Fatalf("P9.1: Bool(V11, %q) = %v, %v, want %v, %v", s, says, ok, want, is)
	}
	young, is := Bool(api.V12, s)
	if want, ok := slowBool(api.V12, s); young != want || is != ok {
		t.Fatalf("P9.1: Bool(V12, %q) = %v, %v, want %v, %v", s, young, is, want, ok)
	}
	if is && (!ok || says != young) {
		t.Fatalf("P9.2: %q says %v in the new version, %v, %v in the old one", s, young, says, ok)
	}
	null, merge, plain := Null(s), Merge(s), Plain(s)
	if want := slices.Contains(nulls, s); null != want {
		t.Fatalf("P9.1: Null(%q) = %v", s, null)
	}
	if want := s == string([]byte{'<', '<'}); merge != want {
		t.Fatalf("P9.1: Merge(%q) = %v", s, merge)
	}
	if want := slowPlain(s); plain != want {
		t.Fatalf("P9.1: Plain(%q) = %v", s, plain)
	}
	if plain && (ok || is || null || merge) {
		t.Fatalf("P9.1: %q is plain, and another word", s)
	}
}

func TestWordsOfBothVersions(t *testing.T) {
	for _, v := range append(newVersions, api.V11) {
		for _, s := range bothTrue {
			if says, ok := Bool(v, s); !says || !ok {
				t.Errorf("P9.1: Bool(%d, %q) = %v, %v", v, s, says, ok)
			}
		}
		for _, s := range bothFalse {
			if says, ok := Bool(v, s); says || !ok {
				t.Errorf("P9.1: Bool(%d, %q) = %v, %v", v, s, says, ok)
			}
		}
	}
}

func TestWordsOfTheOldVersion(t *testing.T) {
	for _, s := range onlyTrue {
		if says, ok := Bool(api.V11, s); !says || !ok {
			t.Errorf("P9.1: Bool(V11, %q) = %v, %v", s, says, ok)
		}
	}
	for _, s := range onlyFalse {
		if says, ok := Bool(api.V11, s); says || !ok {
			t.Errorf("P9.1: Bool(V11, %q) = %v, %v", s, says, ok)
		}
	}
	for _, s := range slices.Concat(onlyTrue, onlyFalse) {
		for _, v := range newVersions {
			if says, ok := Bool(v, s); says || ok {
				t.Errorf("P9.1: Bool(%d, %q) = %v, %v", v, s, says, ok)
			}
		}
	}
}

// What is no word says nothing, however near it is to one.
func TestNoWords(t *testing.T) {
	for _, s := range []string{"", " ", "t", "T", "f", "F", "o", "O", "1", "0", "~", "null", "<<", "tRUE", "truE", "TRue", "fALSE", "falsE", "yES", "yeS", "YeS", "oN", "nO", "oFF", "ofF", "OFf", "true ", " true", "yes\n", "y\x00", "\x00n", "on\r", "trues", "tru", "ye", "of", "yess", "noo", "onoff", "true,false", `"yes"`, "'no'", "!yes", "y:", "ye\u017f", "fal\u017fe", "\uff59", "\uff39\uff25\uff33", "\u00ff", "\xff", "no\xff", "\uFEFFyes", "yes\u2028", "oui", "nein"} {
		for _, v := range append(newVersions, api.V11) {
			if says, ok := Bool(v, s); says || ok {
				t.Errorf("P9.1: Bool(%d, %q) = %v, %v", v, s, says, ok)
			}
		}
	}
}

func TestNulls(t *testing.T) {
	for _, s := range nulls {
		if !Null(s) {
			t.Errorf("P9.1: Null(%q) = false", s)
		}
	}
	for _, s := range []string{" ", "\n", "\x00", "~~", " ~", "~ ", "nUll", "nuLL", "nULL", "NUll", "nulL", "nul", "nulls", "null ", " null", "null\n", "nil", "none", "None", "n", "0", "false", "<<", "''", `""`, "\u02dc", "\uff5e", "\xff", "nu\u2113l", "\uFEFF"} {
		if Null(s) {
			t.Errorf("P9.1: Null(%q) = true", s)
		}
	}
}

func TestMerges(t *testing.T) {
	if !Merge("<<") {
		t.Error("P9.1: Merge(<<) = false")
	}
	for _, s := range []string{"", "<", "<<<", "<<<<", " <<", "<< ", "< <", "<<\n", "<<:", ">>", "<>", "<<\x00", "\u226a", "\u00ab", "\uff1c\uff1c", "=", "~", "null", "merge"} {
		if Merge(s) {
			t.Errorf("P9.1: Merge(%q) = true", s)
		}
	}
}

func TestPlainWords(t *testing.T) {
	for _, s := range []string{"a", "z", "A", "Z", "b", "t", "F", "o", "N-", "y_", "n0", "a1", "a1_-", "a-", "a_", "a--", "Z9", "zZ09_-", "nUll", "oN", "tRUE", "yES", "e1", "inf", "NaN", "x0", "true1", "true-", "null_", "trueFalse", "yes-no", "nulls", "nil", "None"} {
		if !Plain(s) {
			t.Errorf("P9.1: Plain(%q) = false", s)
		}
	}
	for _, s := range slices.Concat(words(), []string{" ", "1", "1a", "0x", "-", "_", "-a", "_a", "--", "a b", "a.b", "a:", "a,", "a/", "a@b", "a[", "a`", "a{", "a\n", "a\x00", "a ", " a", "a\t", ".a", "~a", "<", "<<a", "a<<", "!a", "&a", "*a", "a\u00e9", "\u00e9", "\u00e9a", "a\u017f", "\u212a", "a\uff10", "a\u0660", "a\u2010", "\uff21", "a\xff", "\xc3", "\uFEFFa", "+a", ".inf", ".nan", "12", "1e3", "2001-01-01"}) {
		if Plain(s) {
			t.Errorf("P9.1: Plain(%q) = true", s)
		}
	}
}

// At most 40 signs, of whatever kind they are behind the first.
func TestPlainLengths(t *testing.T) {
	for n := 1; n <= 300; n++ {
		for _, sign := range []string{"a", "Z", "0", "9", "_", "-"} {
			s := "k" + strings.Repeat(sign, n-1)
			if is, want := Plain(s), n <= 40; is != want {
				t.Errorf("P9.1: Plain of k and %d of %s = %v", n-1, sign, is)
			}
			check(t, s)
		}
	}
	for _, s := range words() {
		check(t, s+strings.Repeat("e", 40-len(s)))
		check(t, s+strings.Repeat("e", 41-len(s)))
	}
	for n := range 25 {
		check(t, "a"+strings.Repeat("\u00e9", n))
		check(t, strings.Repeat("a", 39)+strings.Repeat("\u00e9", n))
	}
}

// Every byte in every place, of plain words that are short, and of the longest.
func TestPlainSigns(t *testing.T) {
	for _, s := range []string{"a", "ab", "Abc", strings.Repeat("q", 39), strings.Repeat("q", 40)} {
		for c := range 256 {
			for i := range len(s) {
				check(t, s[:i]+string([]byte{byte(c)})+s[i+1:])
			}
		}
	}
}

// cases makes every text that is s, small letters or great ones.
func cases(s string) []string {
	all := []string{""}
	for i := range len(s) {
		var longer []string
		for _, begun := range all {
			longer = append(longer, begun+strings.ToLower(s[i:i+1]), begun+strings.ToUpper(s[i:i+1]))
		}
		all = longer
	}
	return all
}

func TestEveryCase(t *testing.T) {
	for _, s := range words() {
		for _, s := range cases(s) {
			check(t, s)
		}
	}
}

// Every byte instead of one of a word's, ahead of it, and one taken away; words behind one another.
func TestNearWords(t *testing.T) {
	for _, s := range words() {
		for i := range len(s) + 1 {
			for c := range 256 {
				sign := string([]byte{byte(c)})
				check(t, s[:i]+sign+s[i:])
				if i < len(s) {
					check(t, s[:i]+sign+s[i+1:])
				}
			}
			check(t, s[:i])
			check(t, s[i:])
			check(t, s[:i]+s[min(i+1, len(s)):])
		}
		for _, other := range words() {
			check(t, s+other)
			check(t, s+" "+other)
		}
	}
}

// checkTexts checks every text of at most n of the signs.
func checkTexts(t *testing.T, begun string, n int, signs string) {
	t.Helper()
	check(t, begun)
	if n == 0 {
		return
	}
	for i := range len(signs) {
		checkTexts(t, begun+signs[i:i+1], n-1, signs)
	}
}

func TestShortTexts(t *testing.T) {
	var bytes []byte
	for c := range 256 {
		bytes = append(bytes, byte(c))
	}
	checkTexts(t, "", 2, string(bytes))
	checkTexts(t, "", 4, "yYeEsSnNoOfF")
	checkTexts(t, "", 5, "tTrRuUeE")
	checkTexts(t, "", 5, "fFaAlLsSeE")
	checkTexts(t, "", 5, "nNuUlL~<")
	checkTexts(t, "", 4, "aZ09_-.: <~")
}

func TestVeryLongTexts(t *testing.T) {
	for _, s := range []string{"a", "-", "true", "no", "~", "null", "<<", "\xff", "\u00e9"} {
		check(t, strings.Repeat(s, 1_000_000))
		check(t, "a"+strings.Repeat(s, 1_000_000))
	}
}

// The chapter's examples.
func TestExamples(t *testing.T) {
	if says, ok := Bool(api.V11, "Off"); says || !ok {
		t.Errorf("P9.1: Bool(V11, Off) = %v, %v", says, ok)
	}
	if says, ok := Bool(api.V12, "yes"); says || ok {
		t.Errorf("P9.1: Bool(V12, yes) = %v, %v", says, ok)
	}
}

// The old version says of each new word what the new one says.
func TestNewWordsAreOld(t *testing.T) {
	found := 0
	for _, word := range []string{"true", "false", "yes", "no", "on", "off", "y", "n", "null"} {
		for _, s := range cases(word) {
			young, is := Bool(api.V12, s)
			if !is {
				continue
			}
			found++
			if says, ok := Bool(api.V11, s); says != young || !ok {
				t.Errorf("P9.2: Bool(V11, %q) = %v, %v, want %v", s, says, ok, young)
			}
		}
	}
	if found != 6 {
		t.Errorf("P9.1: the new version has %d words", found)
	}
}

func FuzzWords(f *testing.F) {
	for _, s := range words() {
		f.Add(s)
	}
	f.Add("a1_-")
	f.Add(strings.Repeat("a", 41))
	f.Fuzz(check)
}
