package tagname

import (
	"math"
	"regexp"
	"slices"
	"strings"
	"testing"
	"unsafe"

	"targum/api"
)

// The chapter's signs that are neither letters nor digits, as it lists them, and those of them that are no short signs.
const (
	chapterMarks = "- _ . ~ * ' ( ) ; / ? : @ & = + $ , ! # [ ] %"
	noShortMarks = "! , [ ]"
)

// Tags as they are written, of each kind, and with every kind of sign.
var written = []string{
	"!", "!a", "!a-1", "!a_1", "!-_.~*'();/?:@&=+$#%", "!%41", "!1",
	"!!int", "!!a", "!!-", "!!#%", "!a!b", "!a-1!b", "!-!-", "!0!:", "!Az09-!Az09-",
	"!<a>", "!<!>", "!<!x>", "!<!a!b>", "!<tag:yaml.org,2002:int>", "!<a,b!c]>", "!<[,]!>", "!<-_.~*'();/?:@&=+$,!#[]%aZ9>",
}

// Handles with one name more than once, and with what stands for something of itself.
var (
	someHandles  = []api.Handle{{Name: "!e!", Prefix: "p:"}, {Name: "!", Prefix: "q/"}, {Name: "!e!", Prefix: "r:"}}
	otherHandles = []api.Handle{{Name: "!!", Prefix: "x:"}, {Name: "!", Prefix: "!"}, {Name: "!!", Prefix: api.Core}, {Name: "!-!", Prefix: ""}, {Name: "", Prefix: "none"}, {Name: "e", Prefix: "word"}, {Name: "!", Prefix: "!own-"}}
	allHandles   = [][]api.Handle{nil, {}, someHandles, otherHandles, slices.Concat(someHandles, otherHandles), slices.Concat(otherHandles, someHandles)}
)

// The forms of a tag, each from a text's beginning on.
var (
	tagClass  = "[a-zA-Z0-9" + quoteMarks(chapterMarks, "") + "]"
	short     = "[a-zA-Z0-9" + quoteMarks(chapterMarks, noShortMarks) + "]"
	good      = regexp.MustCompile(`\A` + tagClass + `+\z`)
	angled    = regexp.MustCompile(`\A!<`)
	verbatim  = regexp.MustCompile(`\A!<(` + tagClass + `+)>`)
	handle    = regexp.MustCompile(`\A!(?:[a-zA-Z0-9-]+)?!`)
	handled   = regexp.MustCompile(`\A(!(?:[a-zA-Z0-9-]+)?!)(` + short + `+)`)
	unhandled = regexp.MustCompile(`\A(!)(` + short + `*)`)
)

// quoteMarks writes marks without some of them for a class of a regular expression.
func quoteMarks(marks, without string) string {
	var class strings.Builder
	for _, mark := range strings.Fields(marks) {
		if !strings.Contains(without, mark) {
			class.WriteString(`\` + mark)
		}
	}
	return class.String()
}

// slowRead reads a tag by the forms.
func slowRead(s string, i int) (api.Tag, int, bool) {
	if i < 0 || i >= len(s) || s[i] != '!' {
		return api.Tag{}, 0, false
	}
	form := unhandled
	switch {
	case angled.MatchString(s[i:]):
		form = verbatim
	case handle.MatchString(s[i:]):
		form = handled
	}
	parts := form.FindStringSubmatch(s[i:])
	if parts == nil {
		return api.Tag{}, 0, false
	}
	if form == verbatim {
		return api.Tag{Verbatim: true, Suffix: parts[1]}, i + len(parts[0]), true
	}
	return api.Tag{Handle: parts[1], Suffix: parts[2]}, i + len(parts[0]), true
}

// slowExpand goes over the handles from the last one on.
func slowExpand(t api.Tag, l []api.Handle) (string, bool) {
	if t.Verbatim {
		return t.Suffix, true
	}
	if t.Handle == "!" && t.Suffix == "" {
		return "!", true
	}
	for _, h := range slices.Backward(l) {
		if h.Name == t.Handle {
			return h.Prefix + t.Suffix, true
		}
	}
	if t.Handle == "!" {
		return "!" + t.Suffix, true
	}
	if t.Handle == "!!" {
		return "tag:yaml.org,2002:" + t.Suffix, true
	}
	return "", false
}

// checkRead holds Read at a byte against the slow way, and Expand of what is read.
func checkRead(t *testing.T, s string, i int) {
	t.Helper()
	want, wantEnd, is := slowRead(s, i)
	got, end, ok := Read(s, i)
	if got != want || end != wantEnd || ok != is {
		t.Fatalf("P12.2: Read(%q, %d) = %#v, %d, %v, want %#v, %d, %v", s, i, got, end, ok, want, wantEnd, is)
	}
	if ok {
		checkExpand(t, got)
	}
}

// checkExpand holds Expand against the slow way, with all handles.
func checkExpand(t *testing.T, tag api.Tag) {
	t.Helper()
	for _, l := range allHandles {
		want, is := slowExpand(tag, l)
		if got, ok := Expand(tag, l); got != want || ok != is {
			t.Fatalf("P12.3: Expand(%#v, %q) = %q, %v, want %q, %v", tag, l, got, ok, want, is)
		}
	}
}

// check holds all calls of a text against the slow ways.
func check(t *testing.T, s string) {
	t.Helper()
	for i := -1; i <= len(s)+1; i++ {
		checkRead(t, s, i)
	}
	checkTag(t, s)
}

// checkTag holds Good and Write against the slow way, and looks whether what is written is read.
func checkTag(t *testing.T, tag string) {
	t.Helper()
	is, want := good.MatchString(tag), ""
	if is {
		want = "!<" + tag + ">"
	}
	if Good(tag) != is {
		t.Fatalf("P12.1: Good(%q) = %v", tag, !is)
	}
	s := Write(tag)
	if s != want {
		t.Fatalf("P12.3: Write(%q) = %q, want %q", tag, s, want)
	}
	if !is {
		return
	}
	for _, around := range []string{"", " ", "a", "!", ">", "\n"} {
		read, end, ok := Read(around+s+around, len(around))
		if read != (api.Tag{Verbatim: true, Suffix: tag}) || end != len(around)+len(s) || !ok {
			t.Fatalf("P12.4: Read(%q, %d) = %#v, %d, %v", around+s+around, len(around), read, end, ok)
		}
		for _, l := range allHandles {
			if back, ok := Expand(read, l); back != tag || !ok {
				t.Fatalf("P12.4: Expand(%#v, %q) = %q, %v, want itself", read, l, back, ok)
			}
		}
	}
}

func TestGood(t *testing.T) {
	for _, tag := range []string{"a", "z", "A", "Z", "0", "9", "-", "!", ",", "[", "]", "#", "%", "!x", "!!int", "!a!b", api.Core, api.Int, "%41", "%", "%zz", "a,b", "[a]", "][", "'", "''", "-_.~*'();/?:@&=+$,!#[]%aZ9", "http://a.b/c?d=e&f=g#h", "::", "~", "null"} {
		if !Good(tag) {
			t.Errorf("P12.1: Good(%q) = false", tag)
		}
		if s := Write(tag); s != "!<"+tag+">" {
			t.Errorf("P12.3: Write(%q) = %q", tag, s)
		}
		check(t, tag)
	}
	for _, tag := range []string{"", " ", "a b", " a", "a ", "\ta", "a\t", "a\n", "\na", "a\r", "a<", "<a", "a>", ">", "<", "!<a>", "{", "a{", "}", "a}", "{}", "\\", "a\\", "|", "a|", "\"", "\"a\"", "^", "a^", "`", "a`b", "\x00", "a\x00", "\x7f", "\u00e9", "a\u00e9", "\u0410", "\u0661", "\uff21", "a\u2028", "\u0085", "\uFEFFa", "a\xff", "\x80", "\xe1"} {
		if Good(tag) {
			t.Errorf("P12.1: Good(%q) = true", tag)
		}
		if s := Write(tag); s != "" {
			t.Errorf("P12.3: Write(%q) = %q", tag, s)
		}
		check(t, tag)
	}
}

// Sign for sign: of all bytes the chapter's are tag signs, and all but four of these are short ones.
func TestEverySign(t *testing.T) {
	const lettersAndDigits = "abcdefghijklmnopqrstuvwxyzABCDEFGHIJKLMNOPQRSTUVWXYZ0123456789"
	for b := range 256 {
		sign := string([]byte{byte(b)})
		isTag := strings.Contains(lettersAndDigits, sign) || sign != " " && strings.Contains(chapterMarks, sign)
		isShort := isTag && !strings.Contains(noShortMarks, sign)
		isWord := strings.Contains(lettersAndDigits, sign) || sign == "-"
		if Good(sign) != isTag || Good("a"+sign) != isTag || Good(sign+"a") != isTag {
			t.Errorf("P12.1: Good(%q) = %v", sign, !isTag)
		}
		if _, _, ok := Read("!<"+sign+">", 0); ok != isTag {
			t.Errorf("P12.2: %q in <> is read: %v", sign, ok)
		}
		if _, end, _ := Read("!a"+sign, 0); (end == 3) != isShort {
			t.Errorf("P12.2: %q behind !a is read to %d", sign, end)
		}
		if _, _, ok := Read("!!"+sign, 0); ok != isShort {
			t.Errorf("P12.2: %q behind !! is read: %v", sign, ok)
		}
		if tag, _, _ := Read("!"+sign+"!b", 0); (tag.Suffix == "b") != isWord {
			t.Errorf("P12.2: %q in a handle is read: %#v", sign, tag)
		}
	}
}

func TestRead(t *testing.T) {
	for s, want := range map[string]struct {
		tag api.Tag
		end int
	}{
		"!":                  {api.Tag{Handle: "!"}, 1},
		"! a":                {api.Tag{Handle: "!"}, 1},
		"!\n":                {api.Tag{Handle: "!"}, 1},
		"!,":                 {api.Tag{Handle: "!"}, 1},
		"!]":                 {api.Tag{Handle: "!"}, 1},
		"![a":                {api.Tag{Handle: "!"}, 1},
		"!{a":                {api.Tag{Handle: "!"}, 1},
		"!\"a":               {api.Tag{Handle: "!"}, 1},
		"!>a":                {api.Tag{Handle: "!"}, 1},
		"!\u00e9":            {api.Tag{Handle: "!"}, 1},
		"! <a>":              {api.Tag{Handle: "!"}, 1},
		"!a":                 {api.Tag{Handle: "!", Suffix: "a"}, 2},
		"!a b":               {api.Tag{Handle: "!", Suffix: "a"}, 2},
		"!a,b":               {api.Tag{Handle: "!", Suffix: "a"}, 2},
		"!a[b":               {api.Tag{Handle: "!", Suffix: "a"}, 2},
		"!a]":                {api.Tag{Handle: "!", Suffix: "a"}, 2},
		"!a}":                {api.Tag{Handle: "!", Suffix: "a"}, 2},
		"!a<b>":              {api.Tag{Handle: "!", Suffix: "a"}, 2},
		"!a>":                {api.Tag{Handle: "!", Suffix: "a"}, 2},
		"!a: b":              {api.Tag{Handle: "!", Suffix: "a:"}, 3},
		"!%41":               {api.Tag{Handle: "!", Suffix: "%41"}, 4},
		"!%":                 {api.Tag{Handle: "!", Suffix: "%"}, 2},
		"!#a":                {api.Tag{Handle: "!", Suffix: "#a"}, 3},
		"!a_!b":              {api.Tag{Handle: "!", Suffix: "a_"}, 3},
		"!_!b":               {api.Tag{Handle: "!", Suffix: "_"}, 2},
		"!a.b!c":             {api.Tag{Handle: "!", Suffix: "a.b"}, 4},
		"!:!b":               {api.Tag{Handle: "!", Suffix: ":"}, 2},
		"!!a":                {api.Tag{Handle: "!!", Suffix: "a"}, 3},
		"!!int 1":            {api.Tag{Handle: "!!", Suffix: "int"}, 5},
		"!!a!b":              {api.Tag{Handle: "!!", Suffix: "a"}, 3},
		"!!a!":               {api.Tag{Handle: "!!", Suffix: "a"}, 3},
		"!!-!b":              {api.Tag{Handle: "!!", Suffix: "-"}, 3},
		"!!a,b":              {api.Tag{Handle: "!!", Suffix: "a"}, 3},
		"!!_":                {api.Tag{Handle: "!!", Suffix: "_"}, 3},
		"!a!b":               {api.Tag{Handle: "!a!", Suffix: "b"}, 4},
		"!a!b c":             {api.Tag{Handle: "!a!", Suffix: "b"}, 4},
		"!a!b!c":             {api.Tag{Handle: "!a!", Suffix: "b"}, 4},
		"!a!b!":              {api.Tag{Handle: "!a!", Suffix: "b"}, 4},
		"!a!b]":              {api.Tag{Handle: "!a!", Suffix: "b"}, 4},
		"!-!b":               {api.Tag{Handle: "!-!", Suffix: "b"}, 4},
		"!0!-":               {api.Tag{Handle: "!0!", Suffix: "-"}, 4},
		"!a-1!_b":            {api.Tag{Handle: "!a-1!", Suffix: "_b"}, 7},
		"!a!#":               {api.Tag{Handle: "!a!", Suffix: "#"}, 4},
		"!<a>":               {api.Tag{Verbatim: true, Suffix: "a"}, 4},
		"!<a> b":             {api.Tag{Verbatim: true, Suffix: "a"}, 4},
		"!<a>b":              {api.Tag{Verbatim: true, Suffix: "a"}, 4},
		"!<a>>":              {api.Tag{Verbatim: true, Suffix: "a"}, 4},
		"!<!>":               {api.Tag{Verbatim: true, Suffix: "!"}, 4},
		"!<!!a>":             {api.Tag{Verbatim: true, Suffix: "!!a"}, 6},
		"!<tag:x,2000:a[1]>": {api.Tag{Verbatim: true, Suffix: "tag:x,2000:a[1]"}, 18},
	} {
		if tag, end, ok := Read(s, 0); tag != want.tag || end != want.end || !ok {
			t.Errorf("P12.2: Read(%q, 0) = %#v, %d, %v, want %#v, %d", s, tag, end, ok, want.tag, want.end)
		}
		check(t, s)
		check(t, "a "+s)
	}
}

func TestNoTags(t *testing.T) {
	for _, s := range []string{
		"", " ", "a", "a!", " !", "-!a", "&a", "*a", "<a>", "<!a>", "#!a", "\xff", "\uff01a",
		"!<", "!<>", "!< >", "!<a", "!<a b>", "!< a>", "!<a >", "!<a\n>", "!<<a>>", "!<a<b>", "!<a<", "!<\u00e9>", "!<a\u00e9>", "!<{}>", "!<a\"b>", "!<a\xff>", "!<!", "!<tag:yaml.org,2002:int", "!<a!b", "!<|>", "!<a\\>", "!<a\x00>",
		"!!", "!! a", "!!,", "!!,a", "!!]", "!![a", "!!!", "!!!a", "!!!!", "!!\n", "!!{", "!!}", "!!\"a", "!!<a>", "!!>", "!!\u00e9", "!!\xff",
		"!a!", "!a! b", "!a!,", "!a!]", "!a![", "!a!!", "!a!!b", "!-!", "!0!\t", "!a!{", "!a!\"", "!a!<b>", "!a!>", "!a!\u00e9", "!a-b-c! ", "!tag!",
	} {
		if tag, end, ok := Read(s, 0); tag != (api.Tag{}) || end != 0 || ok {
			t.Errorf("P12.2: Read(%q, 0) = %#v, %d, %v", s, tag, end, ok)
		}
		check(t, s)
	}
}

// Places where no byte is, and every place of a text with several tags.
func TestPlaces(t *testing.T) {
	for _, s := range []string{"", "!", "!a", "!!a", "!<a>", "x!y", "!!!!", "a !b !!c !d!e !<f>"} {
		for _, i := range []int{math.MinInt, math.MinInt + 1, -2, -1, len(s), len(s) + 1, math.MaxInt - 2, math.MaxInt - 1, math.MaxInt} {
			if tag, end, ok := Read(s, i); tag != (api.Tag{}) || end != 0 || ok {
				t.Errorf("P12.2: Read(%q, %d) = %#v, %d, %v", s, i, tag, end, ok)
			}
		}
		check(t, s)
	}
	s := "a !b !!c !d!e !<f>"
	for i, want := range map[int]struct {
		tag api.Tag
		end int
	}{
		2:  {api.Tag{Handle: "!", Suffix: "b"}, 4},
		5:  {api.Tag{Handle: "!!", Suffix: "c"}, 8},
		6:  {api.Tag{Handle: "!", Suffix: "c"}, 8},
		9:  {api.Tag{Handle: "!d!", Suffix: "e"}, 13},
		11: {api.Tag{Handle: "!", Suffix: "e"}, 13},
		14: {api.Tag{Verbatim: true, Suffix: "f"}, 18},
	} {
		if tag, end, ok := Read(s, i); tag != want.tag || end != want.end || !ok {
			t.Errorf("P12.2: Read(%q, %d) = %#v, %d, %v", s, i, tag, end, ok)
		}
	}
}

func TestExpand(t *testing.T) {
	for i, c := range []struct {
		tag  api.Tag
		l    []api.Handle
		want string
	}{
		{api.Tag{Handle: "!"}, nil, "!"},
		{api.Tag{Handle: "!"}, someHandles, "!"},
		{api.Tag{Handle: "!"}, []api.Handle{{Name: "!", Prefix: "x"}}, "!"},
		{api.Tag{Handle: "!"}, []api.Handle{{Name: "!", Prefix: ""}}, "!"},
		{api.Tag{Handle: "!", Suffix: "x"}, nil, "!x"},
		{api.Tag{Handle: "!", Suffix: "x"}, someHandles, "q/x"},
		{api.Tag{Handle: "!", Suffix: "!"}, nil, "!!"},
		{api.Tag{Handle: "!", Suffix: "x"}, []api.Handle{{Name: "!", Prefix: ""}}, "x"},
		{api.Tag{Handle: "!", Suffix: "x"}, []api.Handle{{Name: "!!", Prefix: "y"}}, "!x"},
		{api.Tag{Handle: "!!", Suffix: "int"}, nil, api.Int},
		{api.Tag{Handle: "!!", Suffix: "x"}, someHandles, "tag:yaml.org,2002:x"},
		{api.Tag{Handle: "!!"}, nil, "tag:yaml.org,2002:"},
		{api.Tag{Handle: "!!", Suffix: "int"}, []api.Handle{{Name: "!!", Prefix: "x:"}}, "x:int"},
		{api.Tag{Handle: "!!"}, []api.Handle{{Name: "!!", Prefix: "x:"}}, "x:"},
		{api.Tag{Handle: "!!"}, []api.Handle{{Name: "!!", Prefix: ""}}, ""},
		{api.Tag{Handle: "!e!", Suffix: "x"}, someHandles, "r:x"},
		{api.Tag{Handle: "!e!"}, someHandles, "r:"},
		{api.Tag{Handle: "!e!", Suffix: "x"}, []api.Handle{{Name: "!e!", Prefix: "a"}, {Name: "!e!", Prefix: ""}}, "x"},
		{api.Tag{Handle: "!e!", Suffix: "x"}, []api.Handle{{Name: "!e!", Prefix: ""}, {Name: "!e!", Prefix: "a"}, {Name: "!f!", Prefix: "b"}}, "ax"},
		{api.Tag{Handle: "", Suffix: "x"}, []api.Handle{{Name: "", Prefix: "a"}}, "ax"},
		{api.Tag{Handle: "\xff \u00e9", Suffix: "\x00"}, []api.Handle{{Name: "\xff \u00e9", Prefix: "\n"}}, "\n\x00"},
		{api.Tag{Verbatim: true, Suffix: "y"}, nil, "y"},
		{api.Tag{Verbatim: true, Suffix: "y"}, someHandles, "y"},
		{api.Tag{Verbatim: true, Suffix: "!"}, someHandles, "!"},
		{api.Tag{Verbatim: true, Suffix: "!!int"}, someHandles, "!!int"},
		{api.Tag{Verbatim: true, Suffix: "%41"}, someHandles, "%41"},
		{api.Tag{Verbatim: true, Handle: "!e!", Suffix: "y"}, nil, "y"},
		{api.Tag{Verbatim: true, Handle: "!e!", Suffix: "y"}, someHandles, "y"},
		{api.Tag{Verbatim: true, Handle: "!", Suffix: ""}, nil, ""},
		{api.Tag{Verbatim: true}, []api.Handle{{Name: "", Prefix: "a"}}, ""},
	} {
		if s, ok := Expand(c.tag, c.l); s != c.want || !ok {
			t.Errorf("P12.3: row %d: Expand(%#v, %q) = %q, %v, want %q", i, c.tag, c.l, s, ok, c.want)
		}
		checkExpand(t, c.tag)
	}
	for _, name := range []string{"", "e", "!e", "e!", "!f!", "!E!", "!e! ", "!!!", "! ", "!!e", "!<", "\x00", "tag:yaml.org,2002:"} {
		tag := api.Tag{Handle: name, Suffix: "x"}
		for _, l := range [][]api.Handle{nil, {}, someHandles} {
			if s, ok := Expand(tag, l); s != "" || ok {
				t.Errorf("P12.3: Expand(%#v, %q) = %q, %v", tag, l, s, ok)
			}
		}
		checkExpand(t, tag)
		checkExpand(t, api.Tag{Handle: name})
	}
}

// Among many handles the last one of a name says what it stands for, wherever it is.
func TestManyHandles(t *testing.T) {
	names := []string{"!", "!!", "!a!", "!b!"}
	prefixes := []string{"", "p", "!"}
	var l []api.Handle
	var hold func(n int)
	hold = func(n int) {
		for _, name := range append(names, "!c!") {
			for _, suffix := range []string{"", "x"} {
				tag := api.Tag{Handle: name, Suffix: suffix}
				want, is := slowExpand(tag, l)
				if got, ok := Expand(tag, l); got != want || ok != is {
					t.Fatalf("P12.3: Expand(%#v, %q) = %q, %v, want %q, %v", tag, l, got, ok, want, is)
				}
			}
		}
		if n == 0 {
			return
		}
		for _, name := range names {
			for _, prefix := range prefixes {
				l = append(l, api.Handle{Name: name, Prefix: prefix})
				hold(n - 1)
				l = l[:len(l)-1]
			}
		}
	}
	hold(3)
}

// checkTexts checks every text of at most n of the signs behind the head.
func checkTexts(t *testing.T, head string, n int, signs string) {
	t.Helper()
	checkRead(t, head, 0)
	if n == 0 {
		checkTag(t, head)
		return
	}
	for i := range len(signs) {
		checkTexts(t, head+signs[i:i+1], n-1, signs)
	}
}

func TestShortTexts(t *testing.T) {
	for _, head := range []string{"", "!", "!!", "!a!", "!<", "!<a", "!a"} {
		checkTexts(t, head, 4, "!<>a-_, ")
	}
	checkTexts(t, "", 7, "!a>")
	checkTexts(t, "!", 6, "!a<>")
}

// Every byte, alone, and in the place of, ahead of and behind each byte of tags.
func TestEveryByte(t *testing.T) {
	for b := range 256 {
		sign := string([]byte{byte(b)})
		check(t, sign)
		for _, s := range written {
			for i := range len(s) {
				checkRead(t, s[:i]+sign+s[i+1:], 0)
				checkRead(t, s[:i]+sign+s[i:], 0)
				if i > 1 {
					checkTag(t, s[1:i]+sign+s[i:])
				}
			}
			check(t, s+sign)
		}
	}
}

// Bytes are gone, or the text is cut off, or two are put together.
func TestCutTexts(t *testing.T) {
	for _, s := range written {
		for i := range len(s) {
			for j := i; j <= len(s); j++ {
				check(t, s[i:j])
				checkRead(t, s[:i]+s[j:], 0)
			}
		}
		for _, other := range written {
			check(t, s+other)
			check(t, s+" "+other)
		}
	}
}

// Two tags that differ are written as two texts.
func TestOtherTagsAreWrittenOtherwise(t *testing.T) {
	seen := map[string]string{}
	var see func(tag string, n int)
	see = func(tag string, n int) {
		s := Write(tag)
		if other, is := seen[s]; is && s != "" {
			t.Fatalf("P12.4: Write(%q) = %q, as of %q", tag, s, other)
		}
		seen[s] = tag
		if n == 0 {
			return
		}
		for _, sign := range "!aA,:%" {
			see(tag+string(sign), n-1)
		}
	}
	see("", 5)
}

// What is handed in stays as it is, the spare room behind it included.
func TestArgumentsStay(t *testing.T) {
	whole := slices.Concat(someHandles, []api.Handle{{Name: "!e!", Prefix: "spare"}, {Name: "!f!", Prefix: "spare"}})
	before := slices.Clone(whole)
	for n := range len(whole) {
		for _, name := range []string{"!", "!!", "!e!", "!f!", ""} {
			tag := api.Tag{Handle: name, Suffix: "x"}
			want, is := slowExpand(tag, before[:n:n])
			if got, ok := Expand(tag, whole[:n]); got != want || ok != is {
				t.Errorf("P12.3: Expand(%#v, %q) = %q, %v, want %q, %v", tag, before[:n], got, ok, want, is)
			}
			if !slices.Equal(whole, before) {
				t.Fatalf("Expand changed the handles: %q", whole)
			}
		}
	}
}

// shares tells whether a text that isn't empty stands within another one's memory.
func shares(s, whole string) bool {
	if s == "" || whole == "" {
		return false
	}
	from, at := uintptr(unsafe.Pointer(unsafe.StringData(whole))), uintptr(unsafe.Pointer(unsafe.StringData(s)))
	return at < from+uintptr(len(whole)) && from < at+uintptr(len(s))
}

// An answer is new memory, even where it is what was handed in or a piece of it, and nothing of it is kept.
func TestAnswersAreNew(t *testing.T) {
	for _, s := range written {
		s = strings.Clone(s)
		tag, _, ok := Read(s, 0)
		if !ok || shares(tag.Handle, s) || shares(tag.Suffix, s) || shares(tag.Suffix, tag.Handle) {
			t.Errorf("Read(%q, 0) shares memory, or is none", s)
		}
		again, _, _ := Read(s, 0)
		if again != tag || shares(again.Handle, tag.Handle) || shares(again.Suffix, tag.Suffix) {
			t.Errorf("Read(%q, 0) answers what it answered ahead", s)
		}
		for _, l := range [][]api.Handle{nil, {{Name: "!a!", Prefix: ""}, {Name: "!", Prefix: ""}}, {{Name: "!!", Prefix: ""}}} {
			if expanded, _ := Expand(tag, l); shares(expanded, tag.Suffix) || shares(expanded, tag.Handle) {
				t.Errorf("Expand(%#v, %q) shares the tag's memory", tag, l)
			}
		}
		if shares(Write(s[1:]), s) {
			t.Errorf("Write(%q) shares its argument's memory", s[1:])
		}
	}
	l := []api.Handle{{Name: "!a!", Prefix: strings.Clone("some:")}}
	for _, suffix := range []string{"", "x"} {
		tag := api.Tag{Handle: "!a!", Suffix: suffix}
		got, ok := Expand(tag, l)
		if got != "some:"+suffix || !ok || shares(got, l[0].Prefix) {
			t.Errorf("Expand(%#v, %q) = %q, %v, or shares the handles' memory", tag, l, got, ok)
		}
	}
	b := []byte("ab")
	l[0].Prefix = "other:"
	if got, _ := Expand(api.Tag{Handle: "!a!", Suffix: string(b)}, l); got != "other:ab" {
		t.Errorf("Expand keeps handles: %q", got)
	}
	if got, ok := Expand(api.Tag{Handle: "!a!", Suffix: "x"}, nil); got != "" || ok {
		t.Errorf("Expand keeps handles: %q, %v", got, ok)
	}
}

func TestVeryLongTexts(t *testing.T) {
	const length = 1_000_000
	word := strings.Repeat("aZ0-", length)
	marks := strings.Repeat("-_.~*'();/?:@&=+$#%", length/16)
	others := strings.Repeat("a!,[]", length)
	for s, want := range map[string]api.Tag{
		"!" + word:                   {Handle: "!", Suffix: word},
		"!" + word + "_!b":           {Handle: "!", Suffix: word + "_"},
		"!" + marks + " b":           {Handle: "!", Suffix: marks},
		"!!" + word + marks + "!b":   {Handle: "!!", Suffix: word + marks},
		"!" + word + "!" + word:      {Handle: "!" + word + "!", Suffix: word},
		"!" + word + "!" + marks:     {Handle: "!" + word + "!", Suffix: marks},
		"!<" + others + marks + ">!": {Verbatim: true, Suffix: others + marks},
	} {
		tag, end, ok := Read(s, 0)
		wantEnd := len(want.Handle) + len(want.Suffix)
		if want.Verbatim {
			wantEnd += len("!<>")
		}
		if tag != want || end != wantEnd || !ok {
			t.Errorf("P12.2: Read of %d bytes that begin with %q: %d, %v, want %d", len(s), s[:8], end, ok, wantEnd)
		}
		if _, end, _ := Read(" "+s, 1); end != wantEnd+1 {
			t.Errorf("P12.2: Read of %d bytes, behind a blank: %d, want %d", len(s), end, wantEnd+1)
		}
	}
	for _, s := range []string{"!<" + others, "!<" + others + " >", "!" + word + "!", "!" + word + "!,"} {
		if tag, end, ok := Read(s, 0); tag != (api.Tag{}) || end != 0 || ok {
			t.Errorf("P12.2: Read of %d bytes that begin with %q: %d, %v", len(s), s[:8], end, ok)
		}
	}
	if !Good(others+marks+word) || Good(others+marks+word+"<") || Good(word+" "+word) {
		t.Errorf("P12.1: Good of long texts")
	}
	checkTag(t, others+marks)
	l := slices.Repeat([]api.Handle{{Name: "!e!", Prefix: "p"}, {Name: "!", Prefix: word}}, length/100)
	l = append(l, api.Handle{Name: "!" + word + "!", Prefix: marks})
	for tag, want := range map[api.Tag]string{
		{Handle: "!e!", Suffix: word}:              "p" + word,
		{Handle: "!", Suffix: marks}:               word + marks,
		{Handle: "!!", Suffix: word}:               api.Core + word,
		{Handle: "!" + word + "!", Suffix: others}: marks + others,
	} {
		if got, ok := Expand(tag, l); got != want || !ok {
			t.Errorf("P12.3: Expand of a tag of %d bytes: %d bytes, %v", len(tag.Suffix), len(got), ok)
		}
	}
}

func TestChapterExamples(t *testing.T) {
	if tag, end, ok := Read("!!int 1", 0); tag != (api.Tag{Handle: "!!", Suffix: "int"}) || end != 5 || !ok {
		t.Errorf("P12.2: Read(\"!!int 1\", 0) = %#v, %d, %v", tag, end, ok)
	}
	if tag, _, ok := Read("!a!b", 0); tag != (api.Tag{Handle: "!a!", Suffix: "b"}) || !ok {
		t.Errorf("P12.2: Read(\"!a!b\", 0) = %#v, %v", tag, ok)
	}
	if s, ok := Expand(api.Tag{Handle: "!", Suffix: "x"}, nil); s != "!x" || !ok {
		t.Errorf("P12.3: Expand of !x without handles = %q, %v", s, ok)
	}
}

func FuzzTags(f *testing.F) {
	for _, s := range written {
		f.Add(s, "!e!", "p:")
	}
	f.Add("!<a", "!", "")
	f.Add("!a! b", "!a!", "\xff")
	f.Fuzz(func(t *testing.T, s, name, prefix string) {
		check(t, s)
		l := append(slices.Clone(someHandles), api.Handle{Name: name, Prefix: prefix})
		for _, tag := range []api.Tag{{Handle: name, Suffix: s}, {Handle: s, Suffix: name}, {Verbatim: true, Handle: name, Suffix: s}, {Handle: "!", Suffix: s}, {Handle: "!!", Suffix: s}} {
			want, is := slowExpand(tag, l)
			if got, ok := Expand(tag, l); got != want || ok != is {
				t.Fatalf("P12.3: Expand(%#v, %q) = %q, %v, want %q, %v", tag, l, got, ok, want, is)
			}
			checkExpand(t, tag)
		}
	})
}
