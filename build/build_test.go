package build

import (
	"encoding/base64"
	"math"
	"regexp"
	"strings"
	"testing"
	"unsafe"

	"targum/api"
	"targum/dec"
	"targum/float11"
	"targum/int11"
	"targum/num12"
	"targum/resolve"
	"targum/stamp"
)

// The forms of the types' texts, as the chapters of the layers below tell them. That of a moment doesn't ask whether there was such a day.
var (
	ofNull     = regexp.MustCompile(`\A(?:~|null|Null|NULL)?\z`)
	ofTrue     = regexp.MustCompile(`\A(?:true|True|TRUE)\z`)
	ofFalse    = regexp.MustCompile(`\A(?:false|False|FALSE)\z`)
	ofOldTrue  = regexp.MustCompile(`\A(?:true|True|TRUE|y|Y|yes|Yes|YES|on|On|ON)\z`)
	ofOldFalse = regexp.MustCompile(`\A(?:false|False|FALSE|n|N|no|No|NO|off|Off|OFF)\z`)
	ofOldInt   = regexp.MustCompile(`\A[+-]?(?:0b_*[01][01_]*|0x_*[0-9a-fA-F][0-9a-fA-F_]*|0_*[0-7][0-7_]*|0|[1-9][0-9_]*(?::[0-5]?[0-9]|:[6-9])*)\z`)
	ofOldFloat = regexp.MustCompile(`\A(?:[+-]?(?:(?:[0-9][0-9_]*\.[0-9_]*|\._*[0-9][0-9_]*)(?:[eE][+-][0-9]+)?|[0-9][0-9_]*(?::[0-5]?[0-9]|:[6-9])+\.[0-9_]*|\.inf|\.Inf|\.INF)|\.nan|\.NaN|\.NAN)\z`)
	ofMoment   = regexp.MustCompile(`\A[0-9]{4}-(?:[0-9]{2}-[0-9]{2}|[0-9]{1,2}-[0-9]{1,2}(?:[Tt]|[ \t]+)[0-9]{1,2}:[0-9]{2}:[0-9]{2}(?:\.[0-9]*)?(?:[ \t]*(?:Z|[+-][0-9]{1,2}(?::[0-9]{2})?))?)\z`)
	ofNewInt   = regexp.MustCompile(`\A(?:[+-]?[0-9]+|0o[0-7]+|0x[0-9a-fA-F]+)\z`)
	ofNewFloat = regexp.MustCompile(`\A(?:[+-]?(?:(?:\.[0-9]+|[0-9]+(?:\.[0-9]*)?)(?:[eE][+-]?[0-9]+)?|\.inf|\.Inf|\.INF)|\.nan|\.NaN|\.NAN)\z`)
)

// Any number but V11 counts as V12.
var versions = []int{api.V11, api.V12, 0, 1, -1, 10, 13, -api.V11, -api.V12, api.V11 + 1<<8, api.V11 + 1<<32, math.MinInt, math.MaxInt}

// The tags whose texts have a form, and those of collections.
var (
	needing     = []string{"tag:yaml.org,2002:null", "tag:yaml.org,2002:bool", "tag:yaml.org,2002:int", "tag:yaml.org,2002:float", "tag:yaml.org,2002:timestamp", "tag:yaml.org,2002:binary"}
	collections = []string{"tag:yaml.org,2002:map", "tag:yaml.org,2002:seq", "tag:yaml.org,2002:set", "tag:yaml.org,2002:omap", "tag:yaml.org,2002:pairs"}
	asking      = []string{"", "!", "tag:yaml.org,2002:str"}
)

// Tags that are another one, near to those that the chapter names too.
var others = []string{
	"!x", "!!", "!!int", "!int", "int", "null", "str", "?", " ", "! ", " !", "\x00", "!\x00", "\n", "\xFF", "\u00E9", "\uFEFF", "tag:example.org,2000:a",
	"tag:yaml.org,2002:", "tag:yaml.org,2002", "tag:", "tag:yaml.org,2002:value", "tag:yaml.org,2002:merge", "tag:yaml.org,2002:yaml", "tag:yaml.org,2002:!",
	"tag:yaml.org,2002:Int", "TAG:YAML.ORG,2002:INT", "tag:yaml.org,2002:in", "tag:yaml.org,2002:ints", "tag:yaml.org,2002:integer", "tag:yaml.org,2002:int ", " tag:yaml.org,2002:int", "tag:yaml.org,2001:int", "tag:yaml.org,2002:tag:yaml.org,2002:int",
	"tag:yaml.org,2002:time", "tag:yaml.org,2002:boolean", "tag:yaml.org,2002:nul", "tag:yaml.org,2002:string", "tag:yaml.org,2002:bin", "tag:yaml.org,2002:TMap", "tag:yaml.org,2002:tmap", "tag:yaml.org,2002:tseq", "tag:yaml.org,2002:pair", "tag:yaml.org,2002:maps",
}

// allTags joins the tags of every kind.
func allTags() []string {
	var all []string
	for _, tags := range [][]string{asking, needing, collections, others} {
		all = append(all, tags...)
	}
	return all
}

// Texts of every kind, at the edges of each.
var written = []string{
	"", "~", "null", "Null", "NULL", "true", "True", "TRUE", "false", "False", "FALSE",
	"y", "Y", "yes", "Yes", "YES", "on", "On", "ON", "n", "N", "no", "No", "NO", "off", "Off", "OFF", "<<", "=",
	"0", "-0", "+00", "9", "-10", "010", "-0_17", "0o17", "0b1_0", "-0b11", "0x1F", "+0xf_F", "1_000", "1:30", "-19:59:9", "08", "0_8",
	"1.", "-0.0", "+1_0.5_0", "1.5e+3", "1e3", "-1E-3", ".5", "._5", "-.5e-10", "1:30.5", "0:0:1.", ".inf", "-.Inf", "+.INF", ".nan", ".NaN", ".NAN", "15.e-1",
	"2001-01-01", "2001-1-1", "1900-02-29", "0000-02-29", "2001-12-14t21:59:43.10-05:00", "2001-1-1 \t 0:00:00 +1", "0000-01-01T00:00:00+1", "2001-01-01T00:00:00Z",
	"AQ==", "AQI=", "AQID", "A Q\t=\r\n=", " \n", "AQI", "AR==", "A===", "AQ==AQ==", "+/+/",
	"abc", "a b", "1.5.5", "a:b", "\u00E9", "\x00", "\xFF",
}

// texts makes every text of at most n of the signs.
func texts(n int, signs string) []string {
	all, last := []string{""}, []string{""}
	for range n {
		var longer []string
		for _, s := range last {
			for i := range len(signs) {
				longer = append(longer, s+signs[i:i+1])
			}
		}
		all, last = append(all, longer...), longer
	}
	return all
}

// form tells the type's own text of what a text says, and what texts have none.
type form func(string) (string, bool)

// always makes one text of all that are of a form.
func always(is func(string) bool, text string) form {
	return func(s string) (string, bool) { return text, is(s) }
}

// both tries one form, and then another one.
func both(a, b form) form {
	return func(s string) (string, bool) {
		if text, ok := a(s); ok {
			return text, true
		}
		return b(s)
	}
}

// told makes what a layer tells of a text that has the form.
func told(is func(string) bool, of form) form {
	return func(s string) (string, bool) {
		if !is(s) {
			return "", false
		}
		return of(s)
	}
}

// printed makes the text of the decimal that a layer tells.
func printed(of func(string) (api.Dec, bool)) form {
	return func(s string) (string, bool) {
		d, ok := of(s)
		return dec.Print(d), ok
	}
}

// asBytes tells a text without blanks and breaks, if another reader takes that for bytes.
func asBytes(s string) (string, bool) {
	bare := strings.NewReplacer(" ", "", "\t", "", "\n", "", "\r", "").Replace(s)
	_, err := base64.StdEncoding.Strict().DecodeString(bare)
	return bare, err == nil
}

// forms tells which form each tag asks of a text in the version.
func forms(old bool) map[string]form {
	null := always(ofNull.MatchString, "")
	moment := told(ofMoment.MatchString, stamp.Of)
	if old {
		return map[string]form{
			"tag:yaml.org,2002:null":      null,
			"tag:yaml.org,2002:bool":      both(always(ofOldTrue.MatchString, "true"), always(ofOldFalse.MatchString, "false")),
			"tag:yaml.org,2002:int":       told(ofOldInt.MatchString, int11.Of),
			"tag:yaml.org,2002:float":     told(ofOldFloat.MatchString, printed(float11.Of)),
			"tag:yaml.org,2002:timestamp": moment,
			"tag:yaml.org,2002:binary":    asBytes,
		}
	}
	isFloat := func(s string) bool { return ofNewFloat.MatchString(s) && !ofNewInt.MatchString(s) }
	return map[string]form{
		"tag:yaml.org,2002:null":      null,
		"tag:yaml.org,2002:bool":      both(always(ofTrue.MatchString, "true"), always(ofFalse.MatchString, "false")),
		"tag:yaml.org,2002:int":       told(ofNewInt.MatchString, num12.Int),
		"tag:yaml.org,2002:float":     told(isFloat, printed(num12.Float)),
		"tag:yaml.org,2002:timestamp": moment,
		"tag:yaml.org,2002:binary":    asBytes,
	}
}

// Made once: tests ask for them at every text.
var oldForms, newForms = forms(true), forms(false)

// slowOf goes by the chapter's words, one by one.
func slowOf(v int, tag, text string, plain bool) (api.Value, bool) {
	if tag == "" && plain {
		return resolve.Plain(v, text), true
	}
	for _, t := range asking {
		if t == tag {
			return api.Value{Tag: "tag:yaml.org,2002:str", Text: text}, true
		}
	}
	for _, t := range collections {
		if t == tag {
			return api.Value{}, false
		}
	}
	all := newForms
	if v == api.V11 {
		all = oldForms
	}
	own, has := all[tag]
	if !has {
		return api.Value{Tag: tag, Text: text}, true
	}
	if s, ok := own(text); ok {
		return api.Value{Tag: tag, Text: s}, true
	}
	return api.Value{}, false
}

// check holds both calls against the chapter's words, for one tag and one text.
func check(t *testing.T, tag, text string) {
	t.Helper()
	if _, needs := newForms[tag]; Needs(tag) != needs {
		t.Fatalf("P14.2: Needs(%q) = %v", tag, !needs)
	}
	for _, v := range versions[:2] {
		for _, plain := range []bool{true, false} {
			want, there := slowOf(v, tag, text, plain)
			got, ok := Of(v, tag, text, plain)
			if got != want || ok != there {
				t.Fatalf("P14.1: Of(%d, %q, %q, %v) = %q, %v, want %q, %v", v, tag, text, plain, got, ok, want, there)
			}
			if ok {
				checkOwn(t, got)
			}
		}
	}
}

// checkOwn asks whether a type's own text is of that type, and that text, in both versions.
func checkOwn(t *testing.T, value api.Value) {
	t.Helper()
	for _, v := range versions[:2] {
		for _, plain := range []bool{true, false} {
			if got, ok := Of(v, value.Tag, value.Text, plain); got != value || !ok {
				t.Fatalf("P14.3: Of(%d, %q, %q, %v) = %q, %v", v, value.Tag, value.Text, plain, got, ok)
			}
		}
	}
}

// checkNeeding holds the calls against the chapter's words for each tag whose texts have a form, and for none.
func checkNeeding(t *testing.T, text string) {
	t.Helper()
	check(t, "", text)
	for _, tag := range needing {
		check(t, tag, text)
	}
}

func TestExamplesOfTheChapter(t *testing.T) {
	if got, ok := Of(api.V11, api.Int, "010", false); got != (api.Value{Tag: api.Int, Text: "8"}) || !ok {
		t.Errorf("P14.1: Of(V11, Int, 010) = %q, %v", got, ok)
	}
	if got, ok := Of(api.V12, api.Bool, "yes", true); got != (api.Value{}) || ok {
		t.Errorf("P14.1: Of(V12, Bool, yes) = %q, %v", got, ok)
	}
	if got, ok := Of(api.V12, "!x", "a", true); got != (api.Value{Tag: "!x", Text: "a"}) || !ok {
		t.Errorf("P14.1: Of(V12, !x, a) = %q, %v", got, ok)
	}
}

// The tags are what api has for them.
func TestNeeds(t *testing.T) {
	for _, tag := range []string{api.Null, api.Bool, api.Int, api.Float, api.Time, api.Binary} {
		if !Needs(tag) {
			t.Errorf("P14.2: Needs(%q) = false", tag)
		}
	}
	for _, tag := range []string{"", "!", api.Core, api.Str, api.TMap, api.TSeq, api.Set, api.Omap, api.Pairs} {
		if Needs(tag) {
			t.Errorf("P14.2: Needs(%q) = true", tag)
		}
	}
	for _, tag := range others {
		if Needs(tag) {
			t.Errorf("P14.2: Needs(%q) = true", tag)
		}
	}
}

// Without a tag a plain text is what it is by itself, and another one is a text.
func TestWithoutTag(t *testing.T) {
	for _, c := range []struct {
		text       string
		old, young api.Value
	}{
		{"", api.Value{Tag: api.Null}, api.Value{Tag: api.Null}},
		{"~", api.Value{Tag: api.Null}, api.Value{Tag: api.Null}},
		{"yes", api.Value{Tag: api.Bool, Text: "true"}, api.Value{Tag: api.Str, Text: "yes"}},
		{"FALSE", api.Value{Tag: api.Bool, Text: "false"}, api.Value{Tag: api.Bool, Text: "false"}},
		{"010", api.Value{Tag: api.Int, Text: "8"}, api.Value{Tag: api.Int, Text: "10"}},
		{"0o17", api.Value{Tag: api.Str, Text: "0o17"}, api.Value{Tag: api.Int, Text: "15"}},
		{"1.50", api.Value{Tag: api.Float, Text: "15.e-1"}, api.Value{Tag: api.Float, Text: "15.e-1"}},
		{"1e3", api.Value{Tag: api.Str, Text: "1e3"}, api.Value{Tag: api.Float, Text: "1.e+3"}},
		{"2001-01-01", api.Value{Tag: api.Time, Text: "2001-01-01"}, api.Value{Tag: api.Str, Text: "2001-01-01"}},
		{"AQ==", api.Value{Tag: api.Str, Text: "AQ=="}, api.Value{Tag: api.Str, Text: "AQ=="}},
		{"!!int 1", api.Value{Tag: api.Str, Text: "!!int 1"}, api.Value{Tag: api.Str, Text: "!!int 1"}},
	} {
		if got, ok := Of(api.V11, "", c.text, true); got != c.old || !ok {
			t.Errorf("P14.1: Of(V11, none, %q, plain) = %q, %v", c.text, got, ok)
		}
		if got, ok := Of(api.V12, "", c.text, true); got != c.young || !ok {
			t.Errorf("P14.1: Of(V12, none, %q, plain) = %q, %v", c.text, got, ok)
		}
		for _, v := range versions {
			if got, ok := Of(v, "", c.text, false); got != (api.Value{Tag: api.Str, Text: c.text}) || !ok {
				t.Errorf("P14.1: Of(%d, none, %q, not plain) = %q, %v", v, c.text, got, ok)
			}
		}
	}
}

// With the sign ! alone, and with the tag of texts, all is a text, plain or not.
func TestTexts(t *testing.T) {
	for _, text := range written {
		for _, tag := range []string{"!", api.Str} {
			for _, v := range versions {
				for _, plain := range []bool{true, false} {
					if got, ok := Of(v, tag, text, plain); got != (api.Value{Tag: api.Str, Text: text}) || !ok {
						t.Errorf("P14.1: Of(%d, %q, %q, %v) = %q, %v", v, tag, text, plain, got, ok)
					}
				}
			}
		}
	}
}

// No scalar is a collection, whatever its text.
func TestCollections(t *testing.T) {
	for _, text := range append([]string{"[]", "{}", "a: b", "- a"}, written...) {
		for _, tag := range []string{api.TMap, api.TSeq, api.Set, api.Omap, api.Pairs} {
			for _, v := range versions {
				for _, plain := range []bool{true, false} {
					if got, ok := Of(v, tag, text, plain); got != (api.Value{}) || ok {
						t.Errorf("P14.1: Of(%d, %q, %q, %v) = %q, %v", v, tag, text, plain, got, ok)
					}
				}
			}
		}
	}
}

// With a tag that is none of these the text is what it is.
func TestOtherTags(t *testing.T) {
	for _, text := range written {
		for _, tag := range others {
			for _, v := range versions {
				for _, plain := range []bool{true, false} {
					if got, ok := Of(v, tag, text, plain); got != (api.Value{Tag: tag, Text: text}) || !ok {
						t.Errorf("P14.1: Of(%d, %q, %q, %v) = %q, %v", v, tag, text, plain, got, ok)
					}
				}
			}
		}
	}
}

// What each type's texts say in both versions; no: it is none.
func TestOwnTexts(t *testing.T) {
	const no = "\x00no"
	for _, c := range []struct {
		tag, text, old, young string
	}{
		{api.Null, "", "", ""},
		{api.Null, "~", "", ""},
		{api.Null, "null", "", ""},
		{api.Null, "Null", "", ""},
		{api.Null, "NULL", "", ""},
		{api.Null, "nULL", no, no},
		{api.Null, "~~", no, no},
		{api.Null, " ", no, no},
		{api.Null, "0", no, no},
		{api.Null, "no", no, no},
		{api.Bool, "true", "true", "true"},
		{api.Bool, "True", "true", "true"},
		{api.Bool, "FALSE", "false", "false"},
		{api.Bool, "y", "true", no},
		{api.Bool, "On", "true", no},
		{api.Bool, "NO", "false", no},
		{api.Bool, "off", "false", no},
		{api.Bool, "tRUE", no, no},
		{api.Bool, "true ", no, no},
		{api.Bool, "1", no, no},
		{api.Bool, "", no, no},
		{api.Bool, "null", no, no},
		{api.Int, "0", "0", "0"},
		{api.Int, "-0", "0", "0"},
		{api.Int, "+12", "12", "12"},
		{api.Int, "-7", "-7", "-7"},
		{api.Int, "18446744073709551616", "18446744073709551616", "18446744073709551616"},
		{api.Int, "010", "8", "10"},
		{api.Int, "08", no, "8"},
		{api.Int, "0x1F", "31", "31"},
		{api.Int, "-0x1", "-1", no},
		{api.Int, "0b11", "3", no},
		{api.Int, "0o17", no, "15"},
		{api.Int, "1_000", "1000", no},
		{api.Int, "1:30", "90", no},
		{api.Int, "1.", no, no},
		{api.Int, "1e3", no, no},
		{api.Int, "", no, no},
		{api.Int, " 1", no, no},
		{api.Int, "one", no, no},
		{api.Float, "1.", "1.e+0", "1.e+0"},
		{api.Float, "1.50", "15.e-1", "15.e-1"},
		{api.Float, "-.5", "-5.e-1", "-5.e-1"},
		{api.Float, "0.0", "0.e+0", "0.e+0"},
		{api.Float, "-0.0", "-0.e+0", "-0.e+0"},
		{api.Float, "1.5e+3", "15.e+2", "15.e+2"},
		{api.Float, "1e3", no, "1.e+3"},
		{api.Float, "1.5e3", no, "15.e+2"},
		{api.Float, "1_0.5", "105.e-1", no},
		{api.Float, "1:30.5", "905.e-1", no},
		{api.Float, ".Inf", ".inf", ".inf"},
		{api.Float, "-.INF", "-.inf", "-.inf"},
		{api.Float, ".NaN", ".nan", ".nan"},
		{api.Float, "-.nan", no, no},
		{api.Float, "1", no, no},
		{api.Float, "0", no, no},
		{api.Float, "0x1", no, no},
		{api.Float, ".", no, no},
		{api.Float, "", no, no},
		{api.Time, "2001-01-01", "2001-01-01", "2001-01-01"},
		{api.Time, "2000-02-29", "2000-02-29", "2000-02-29"},
		{api.Time, "2001-1-1 0:00:00 +1", "2000-12-31T23:00:00Z", "2000-12-31T23:00:00Z"},
		{api.Time, "2001-12-14t21:59:43.10-05:00", "2001-12-15T02:59:43.1Z", "2001-12-15T02:59:43.1Z"},
		{api.Time, "2001-1-1", no, no},
		{api.Time, "1900-02-29", no, no},
		{api.Time, "0000-01-01T00:00:00+1", no, no},
		{api.Time, "2001-01-01T24:00:00", no, no},
		{api.Time, "", no, no},
		{api.Binary, "", "", ""},
		{api.Binary, " \t\r\n", "", ""},
		{api.Binary, "AQI=", "AQI=", "AQI="},
		{api.Binary, "A Q\n=\t=\r", "AQ==", "AQ=="},
		{api.Binary, "true", "true", "true"},
		{api.Binary, "+/+/", "+/+/", "+/+/"},
		{api.Binary, "AQI", no, no},
		{api.Binary, "AR==", no, no},
		{api.Binary, "AQ==AQ==", no, no},
		{api.Binary, "AQ-_", no, no},
		{api.Binary, "~", no, no},
	} {
		for _, v := range versions {
			own := c.young
			if v == api.V11 {
				own = c.old
			}
			want := api.Value{Tag: c.tag, Text: own}
			if own == no {
				want = api.Value{}
			}
			for _, plain := range []bool{true, false} {
				if got, ok := Of(v, c.tag, c.text, plain); got != want || ok != (own != no) {
					t.Errorf("P14.1: Of(%d, %q, %q, %v) = %q, %v, want %q", v, c.tag, c.text, plain, got, ok, want)
				}
			}
		}
		check(t, c.tag, c.text)
	}
}

// What a plain text is by itself it is with its tag, too.
func TestTagOfPlainTexts(t *testing.T) {
	for _, text := range written {
		for _, v := range versions {
			value := resolve.Plain(v, text)
			if got, ok := Of(v, value.Tag, text, false); got != value || !ok {
				t.Errorf("P14.1: Of(%d, %q, %q) = %q, %v, want %q", v, value.Tag, text, got, ok, value)
			}
			checkOwn(t, value)
		}
	}
}

// Every number that is no version asks for the new one.
func TestVersions(t *testing.T) {
	for _, text := range written {
		for _, tag := range allTags() {
			for _, v := range versions {
				want, there := slowOf(v, tag, text, true)
				if got, ok := Of(v, tag, text, true); got != want || ok != there {
					t.Errorf("P14.1: Of(%d, %q, %q) = %q, %v, want %q, %v", v, tag, text, got, ok, want, there)
				}
			}
		}
	}
}

// Every text with every tag.
func TestAllTags(t *testing.T) {
	for _, text := range written {
		for _, tag := range allTags() {
			check(t, tag, text)
		}
	}
}

// Every byte, alone, and in the place of, ahead of and behind each byte of each tag.
func TestEveryByteOfTags(t *testing.T) {
	for b := range 256 {
		sign := string([]byte{byte(b)})
		check(t, sign, "1")
		for _, tag := range allTags() {
			for i := range len(tag) {
				check(t, tag[:i]+sign+tag[i+1:], "1")
				check(t, tag[:i]+sign+tag[i:], "1")
			}
			check(t, tag+sign, "1")
		}
	}
}

// The tag is cut off, one byte is gone, or two are joined.
func TestCutTags(t *testing.T) {
	for _, tag := range allTags() {
		for i := range len(tag) {
			check(t, tag[:i], "1")
			check(t, tag[i:], "1")
			check(t, tag[:i]+tag[i+1:], "1")
		}
		for _, more := range allTags() {
			check(t, tag+more, "1")
		}
	}
}

// Every short text of the signs of which numbers, words and bytes are made.
func TestShortTexts(t *testing.T) {
	for _, s := range texts(4, "-+018._e:") {
		checkNeeding(t, s)
	}
	for _, s := range texts(3, "-+0179:._eExobf~ nNyYtT") {
		checkNeeding(t, s)
	}
	for _, s := range texts(4, "nNoOfFyY") {
		checkNeeding(t, s)
	}
	for _, s := range texts(5, "AQR= ") {
		checkNeeding(t, s)
	}
}

// tagsOf tells the tags of which the text is one in a version.
func tagsOf(text string) []string {
	var tags []string
	for _, tag := range needing {
		_, old := oldForms[tag](text)
		_, young := newForms[tag](text)
		if old || young {
			tags = append(tags, tag)
		}
	}
	return tags
}

// Every byte, alone, and in the place of, ahead of and behind each byte of texts of every type.
func TestEveryByteOfTexts(t *testing.T) {
	for b := range 256 {
		sign := string([]byte{byte(b)})
		checkNeeding(t, sign)
		checkNeeding(t, sign+sign)
		for _, s := range written {
			for _, tag := range tagsOf(s) {
				for i := range len(s) {
					check(t, tag, s[:i]+sign+s[i+1:])
				}
				check(t, tag, sign+s)
				check(t, tag, s+sign)
			}
		}
	}
}

// The text is cut off, one byte is gone, or two are joined.
func TestCutTexts(t *testing.T) {
	for _, s := range written {
		for i := range len(s) {
			checkNeeding(t, s[:i])
			checkNeeding(t, s[i:])
			checkNeeding(t, s[:i]+s[i+1:])
		}
		for _, more := range written {
			checkNeeding(t, s+more)
		}
	}
}

// Numbers that no machine number holds are exact, and long texts and tags are told in time.
func TestVeryLongTexts(t *testing.T) {
	const length = 200_000
	ones, noughts := strings.Repeat("1", length), strings.Repeat("0", length)
	none := api.Value{}
	for _, c := range []struct {
		tag, text  string
		old, young api.Value
	}{
		{"", ones, api.Value{Tag: api.Int, Text: ones}, api.Value{Tag: api.Int, Text: ones}},
		{"!", ones, api.Value{Tag: api.Str, Text: ones}, api.Value{Tag: api.Str, Text: ones}},
		{api.Str, ones, api.Value{Tag: api.Str, Text: ones}, api.Value{Tag: api.Str, Text: ones}},
		{api.Null, ones, none, none},
		{api.Bool, strings.Repeat("true", length), none, none},
		{api.Int, ones, api.Value{Tag: api.Int, Text: ones}, api.Value{Tag: api.Int, Text: ones}},
		{api.Int, noughts + "10", api.Value{Tag: api.Int, Text: "8"}, api.Value{Tag: api.Int, Text: "10"}},
		{api.Int, ones + "x", none, none},
		{api.Float, ones, none, none},
		{api.Float, ones + "." + ones, api.Value{Tag: api.Float, Text: ones + ones + ".e-200000"}, api.Value{Tag: api.Float, Text: ones + ones + ".e-200000"}},
		{api.Float, "1e" + ones, none, api.Value{Tag: api.Float, Text: "1.e+" + ones}},
		{api.Time, "2001-01-01 00:00:00." + ones + noughts, api.Value{Tag: api.Time, Text: "2001-01-01T00:00:00." + ones + "Z"}, api.Value{Tag: api.Time, Text: "2001-01-01T00:00:00." + ones + "Z"}},
		{api.Binary, ones, api.Value{Tag: api.Binary, Text: ones}, api.Value{Tag: api.Binary, Text: ones}},
		{api.Binary, strings.Repeat("A ", length), api.Value{Tag: api.Binary, Text: strings.Repeat("A", length)}, api.Value{Tag: api.Binary, Text: strings.Repeat("A", length)}},
		{api.Binary, ones + "1", none, none},
		{api.Set, ones, none, none},
		{api.Int + ones, ones, api.Value{Tag: api.Int + ones, Text: ones}, api.Value{Tag: api.Int + ones, Text: ones}},
	} {
		if got, ok := Of(api.V11, c.tag, c.text, true); got != c.old || ok != (c.old != none) {
			t.Errorf("P14.1: of V11, with %.40q, %.20q.. is another value", c.tag, c.text)
		}
		if got, ok := Of(api.V12, c.tag, c.text, true); got != c.young || ok != (c.young != none) {
			t.Errorf("P14.1: of V12, with %.40q, %.20q.. is another value", c.tag, c.text)
		}
	}
}

// shares tells whether the answer stands somewhere in what was handed in.
func shares(answer, s string) bool {
	for i := range len(s) {
		if unsafe.StringData(answer) == unsafe.StringData(s[i:]) {
			return true
		}
	}
	return false
}

// An answer is new memory, even where it is what was handed in.
func TestAnswersAreNew(t *testing.T) {
	long := strings.Repeat("9", 100)
	for _, text := range []string{"a", "abc" + long, "null", "true", "yes", long, "-" + long, "+" + long, long + ".5", "1." + long + "e+1", "1e" + long, "2001-01-01", "2001-01-01T00:00:00." + long + "Z", "0b1", "0o1", long, " " + long, "AQ=="} {
		for _, tag := range allTags() {
			text, tag := strings.Clone(text), strings.Clone(tag)
			for _, v := range versions[:2] {
				for _, plain := range []bool{true, false} {
					got, _ := Of(v, tag, text, plain)
					if shares(got.Text, text) || shares(got.Tag, tag) || shares(got.Text, tag) || shares(got.Tag, text) {
						t.Errorf("Of(%d, %q, %q, %v) shares an argument's memory", v, tag, text, plain)
					}
				}
			}
		}
	}
}

func FuzzOf(f *testing.F) {
	for _, tag := range allTags() {
		f.Add(tag, "1")
	}
	for _, text := range written {
		for _, tag := range needing {
			f.Add(tag, text)
		}
	}
	f.Fuzz(check)
}
