package bin

import (
	"bytes"
	"encoding/base64"
	"slices"
	"strings"
	"testing"
	"unsafe"
)

// The chapter's signs, for 0 to 63.
const chapterSigns = "ABCDEFGHIJKLMNOPQRSTUVWXYZabcdefghijklmnopqrstuvwxyz0123456789+/"

// Texts of bytes, with each number of = at the end, and with every kind of sign.
var written = []string{"", "AA==", "AQ==", "/w==", "AQI=", "//8=", "AAA=", "AQID", "AAAA", "////", "++++", "AAAAAA==", "+/A=", "azAZ/+9=", "TWFuTWE=", "aGVsbG8gd29ybGQ=", "QUJDREVGR0hJSktMTU5PUFFSU1RVVldYWVphYmNkZWZn"}

// digitsOf tells the binary digits of n, noughts ahead.
func digitsOf(n, digits int) string {
	s := ""
	for range digits {
		s, n = string(rune('0'+n%2))+s, n/2
	}
	return s
}

// numberOf reads binary digits.
func numberOf(digits string) int {
	n := 0
	for _, c := range digits {
		n = 2*n + int(c-'0')
	}
	return n
}

// slowText writes bytes as binary digits, and each six of them as a sign.
func slowText(b []byte) string {
	var digits, text strings.Builder
	for _, c := range b {
		digits.WriteString(digitsOf(int(c), 8))
	}
	left := digits.String() + strings.Repeat("0", (6-len(b)*8%6)%6)
	for ; left != ""; left = left[6:] {
		text.WriteByte(chapterSigns[numberOf(left[:6])])
	}
	return text.String() + strings.Repeat("=", (3-len(b)%3)%3)
}

// slowBytes reads signs as binary digits, each eight of them as a byte, and holds the text against theirs.
func slowBytes(s string) ([]byte, string, bool) {
	text := strings.NewReplacer(" ", "", "\t", "", "\n", "", "\r", "").Replace(s)
	var digits strings.Builder
	for _, c := range []byte(strings.TrimRight(text, "=")) {
		digits.WriteString(digitsOf(max(0, strings.IndexByte(chapterSigns, c)), 6))
	}
	var b []byte
	for left := digits.String(); len(left) >= 8; left = left[8:] {
		b = append(b, byte(numberOf(left[:8])))
	}
	if slowText(b) != text {
		return nil, "", false
	}
	return b, text, true
}

// check holds Of and Bytes against the slow way, and against Text.
func check(t *testing.T, s string) {
	t.Helper()
	wantBytes, want, is := slowBytes(s)
	if got, ok := Of(s); got != want || ok != is {
		t.Fatalf("P11.2: Of(%q) = %q, %v, want %q, %v", s, got, ok, want, is)
	}
	b, ok := Bytes(s)
	if !bytes.Equal(b, wantBytes) || ok != is {
		t.Fatalf("P11.2: Bytes(%q) = %x, %v, want %x, %v", s, b, ok, wantBytes, is)
	}
	if ok && Text(b) != want {
		t.Fatalf("P11.3: Text(%x) = %q, want %q", b, Text(b), want)
	}
}

// checkBytes holds Text against the slow way and the library's, and looks whether the bytes come back.
func checkBytes(t *testing.T, b []byte) {
	t.Helper()
	s := Text(b)
	if s != slowText(b) || s != base64.StdEncoding.EncodeToString(b) {
		t.Fatalf("P11.1: Text(%x) = %q, want %q", b, s, slowText(b))
	}
	if back, ok := Bytes(s); !bytes.Equal(back, b) || !ok {
		t.Fatalf("P11.3: Bytes(%q) = %x, %v, want %x", s, back, ok, b)
	}
	if got, ok := Of(s); got != s || !ok {
		t.Fatalf("P11.2: Of(%q) = %q, %v, want itself", s, got, ok)
	}
}

func TestTexts(t *testing.T) {
	for b, want := range map[string]string{
		"":                             "",
		"\x00":                         "AA==",
		"\x01":                         "AQ==",
		"\x03":                         "Aw==",
		"\x04":                         "BA==",
		"\x7f":                         "fw==",
		"\x80":                         "gA==",
		"\xff":                         "/w==",
		"\x00\x00":                     "AAA=",
		"\x01\x02":                     "AQI=",
		"\x00\x01":                     "AAE=",
		"\x00\x0f":                     "AA8=",
		"\x00\x10":                     "ABA=",
		"\xff\xff":                     "//8=",
		"\xfb\xf0":                     "+/A=",
		"\x00\x00\x00":                 "AAAA",
		"\x00\x00\x01":                 "AAAB",
		"\x00\x00\x3f":                 "AAA/",
		"\x00\x00\x40":                 "AABA",
		"\x00\x10\x00":                 "ABAA",
		"\x04\x00\x00":                 "BAAA",
		"\x01\x02\x03":                 "AQID",
		"\xff\xff\xff":                 "////",
		"\xfb\xef\xbe":                 "++++",
		"Man":                          "TWFu",
		"\x00\x00\x00\x00":             "AAAAAA==",
		"\x01\x02\x03\x04\x05":         "AQIDBAU=",
		"\xff\xff\xff\xff\xff\xff":     "////////",
		"hello world":                  "aGVsbG8gd29ybGQ=",
		" \t\r\n":                      "IAkNCg==",
		"=":                            "PQ==",
		"AQI=":                         "QVFJPQ==",
		"\u00e9\u20ac":                 "w6nigqw=",
		"GIF89a\x01\x00\x01\x00\x80\a": "R0lGODlhAQABAIAH",
	} {
		if s := Text([]byte(b)); s != want {
			t.Errorf("P11.1: Text(%x) = %q, want %q", b, s, want)
		}
		checkBytes(t, []byte(b))
		check(t, want)
	}
	if s := Text(nil); s != "" {
		t.Errorf("P11.1: Text(nil) = %q", s)
	}
}

// Sign for sign: the numbers 0 to 63, six digits each, are the chapter's signs in their order.
func TestEverySign(t *testing.T) {
	var b []byte
	for n := 0; n < 64; n += 4 {
		number := n<<18 | (n+1)<<12 | (n+2)<<6 | (n + 3)
		b = append(b, byte(number>>16), byte(number>>8), byte(number))
	}
	if s := Text(b); s != chapterSigns {
		t.Errorf("P11.1: Text(%x) = %q, want %q", b, s, chapterSigns)
	}
	if got, ok := Bytes(chapterSigns); !bytes.Equal(got, b) || !ok {
		t.Errorf("P11.2: Bytes(%q) = %x, %v, want %x", chapterSigns, got, ok, b)
	}
}

func TestTextsWithBlanksAndBreaks(t *testing.T) {
	for s, want := range map[string]string{
		"":                         "",
		" ":                        "",
		" \t\r\n":                  "",
		"\n\n\n":                   "",
		"A Q\nI\r=\t":              "AQI=",
		" AQID":                    "AQID",
		"AQID\n":                   "AQID",
		"null":                     "null",
		"AQ = =":                   "AQ==",
		"AQ=\r\n=\r\n":             "AQ==",
		"A\tQ\t=\t=":               "AQ==",
		"TW\tFu\r\nTWFu":           "TWFuTWFu",
		"TWFu\nTWFu\nTWE=\n":       "TWFuTWFuTWE=",
		"\r\r\r////\n \t++++ \r\n": "////++++",
	} {
		got, ok := Of(s)
		if got != want || !ok {
			t.Errorf("P11.2: Of(%q) = %q, %v, want %q", s, got, ok, want)
		}
		if b, ok := Bytes(s); Text(b) != want || !ok {
			t.Errorf("P11.2: Bytes(%q) = %x, %v", s, b, ok)
		}
		check(t, s)
	}
}

func TestNoTexts(t *testing.T) {
	for _, s := range []string{
		"A", "AQ", "AQI", "AQ=", "AQIDA", "AQIDAQ", "AQIDAQI", "AQIDAQ=", "A=", "A==",
		"=", "==", "===", "====", "=====", "A===", "=AAA", "A=AA", "AA=A", "=AA=", "A=A=", "==AA", "=A==", "AQ=I", "AQI==", "AQID=", "AQID==", "AQID===", "AQID====", "AQ===", "AQI=====",
		"AR==", "AT==", "AX==", "Af==", "A/==", "AQJ=", "AQK=", "AQL=", "AAB=", "AAD=", "//9=", "//+=", "///=", "//==",
		"AQ==AQ==", "AQ==AQID", "AQI=AQID", "AQI=AQI=", "AQ====", "AQ==\nAQ==", "AQI= AQID", "AQ==A", "AQ===AQI",
		"AQI-", "AQI_", "-_-_", "AQI.", "AQI,", "AQI:", "AQI@", "AQI[", "AQI`", "AQI{", "AQI!", "AQI\"", "AQI*", "AQI~", "(AQ=", "AQ=)", "A-==", "A_E=",
		"AQ\u00a0==", "AQ==\x0b", "AQ==\f", "AQID\x00", "\x00AQI", "AQI\x00", "\x00\x00\x00\x00", "AQID\u0085", "AQID\u2028", "AQID\u3000", "\uFEFFAQID",
		"\xff", "\xff\xff\xff\xff", "AQI\xff", "AQI\xc1", "A\u00e9I=", "\u0410QID", "AQI\uff1d", "AQI\uff0b",
		"true!", "data:;base64,AQID", "\"AQID\"", "AQI%3D", "AQI=#", "AQID # text",
	} {
		if got, ok := Of(s); got != "" || ok {
			t.Errorf("P11.2: Of(%q) = %q, %v", s, got, ok)
		}
		if b, ok := Bytes(s); len(b) != 0 || ok {
			t.Errorf("P11.2: Bytes(%q) = %x, %v", s, b, ok)
		}
		check(t, s)
	}
}

// Every byte, every two bytes, and every two and three bytes that are at an edge of six digits.
func TestEveryShortBytes(t *testing.T) {
	for one := range 256 {
		checkBytes(t, []byte{byte(one)})
	}
	for two := range 1 << 16 {
		b := []byte{byte(two >> 8), byte(two)}
		if s := Text(b); s != base64.StdEncoding.EncodeToString(b) {
			t.Fatalf("P11.1: Text(%x) = %q", b, s)
		}
	}
	edges := []byte{0, 1, 2, 3, 4, 7, 8, 15, 16, 31, 32, 62, 63, 64, 65, 127, 128, 191, 192, 240, 251, 252, 253, 254, 255}
	for _, one := range edges {
		for _, two := range edges {
			checkBytes(t, []byte{one, two})
			for _, three := range edges {
				checkBytes(t, []byte{one, two, three})
			}
		}
	}
}

// Every number of bytes up to some groups of three, each byte with its own digits.
func TestEveryLength(t *testing.T) {
	var b []byte
	for n := range 300 {
		checkBytes(t, b)
		if s := Text(b); len(s) != (n+2)/3*4 {
			t.Fatalf("P11.1: Text of %d bytes has %d signs", n, len(s))
		}
		b = append(b, byte(n*151+7))
	}
	for n := range 60 {
		checkBytes(t, make([]byte, n))
		checkBytes(t, bytes.Repeat([]byte{255}, n))
	}
}

// Bytes that differ by one digit, or by one byte more, have other texts.
func TestOtherBytesHaveOtherTexts(t *testing.T) {
	seen := map[string]string{}
	see := func(b []byte) {
		s := Text(b)
		if other, is := seen[s]; is {
			t.Fatalf("P11.3: Text(%x) = %q, as of %x", b, s, other)
		}
		seen[s] = string(b)
	}
	see(nil)
	for one := range 256 {
		see([]byte{byte(one)})
		for two := range 256 {
			see([]byte{byte(one), byte(two)})
		}
	}
	for three := 0; three < 1<<24; three += 257 {
		see([]byte{byte(three >> 16), byte(three >> 8), byte(three)})
	}
	for n := 4; n < 40; n++ {
		see(make([]byte, n))
		for digit := range n * 8 {
			b := make([]byte, n)
			b[digit/8] = 1 << (digit % 8)
			see(b)
		}
	}
}

// Of every two last signs ahead of ==, and every three ahead of =, only those are texts that have no more.
func TestEveryLastSign(t *testing.T) {
	for _, head := range []string{"", "AQID"} {
		is := 0
		for one := range 64 {
			for two := range 64 {
				last := chapterSigns[one:one+1] + chapterSigns[two:two+1]
				check(t, head+last+"==")
				if _, ok := Of(head + last + "=="); ok {
					is++
				}
				check(t, head+"Q"+last+"=")
				check(t, head+last+"Q=")
				check(t, head+last+"R=")
			}
		}
		if is != 256 {
			t.Errorf("P11.2: %d texts of one byte behind %q", is, head)
		}
	}
}

// checkTexts checks every text of at most n of the signs behind the head.
func checkTexts(t *testing.T, head string, n int, signs string) {
	t.Helper()
	check(t, head)
	if n == 0 {
		return
	}
	for i := range len(signs) {
		checkTexts(t, head+signs[i:i+1], n-1, signs)
	}
}

func TestShortTexts(t *testing.T) {
	for _, head := range []string{"", "AQID", "AQ==", "AQI=", "A\n"} {
		checkTexts(t, head, 4, "AQBb/=- ")
	}
	checkTexts(t, "", 8, "A= ")
	checkTexts(t, "AQID", 5, "AEI=\n")
}

// Every byte, alone, and in the place of, ahead of and behind each byte of texts.
func TestEveryByte(t *testing.T) {
	for b := range 256 {
		sign := string([]byte{byte(b)})
		check(t, sign)
		for n := range 5 {
			check(t, strings.Repeat(sign, n))
		}
		for _, s := range written {
			for i := range len(s) {
				check(t, s[:i]+sign+s[i+1:])
				check(t, s[:i]+sign+s[i:])
			}
			check(t, s+sign)
			check(t, s+sign+sign)
		}
	}
}

// Bytes are gone, or the text is cut off, or two are put together.
func TestCutTexts(t *testing.T) {
	for _, s := range written {
		for i := range len(s) {
			for j := i; j <= len(s); j++ {
				check(t, s[i:j])
				check(t, s[:i]+s[j:])
			}
		}
		for _, other := range written {
			check(t, s+other)
			check(t, s+"\r\n"+other)
		}
	}
}

// What is handed in stays as it is, the spare room behind it included.
func TestArgumentsStay(t *testing.T) {
	for n := range 12 {
		whole := []byte("\x01\x02\x03\x04\x05\x06\x07\x08\x09\x0a\x0b\x0c")
		before := slices.Clone(whole)
		s := Text(whole[:n])
		if !bytes.Equal(whole, before) {
			t.Errorf("Text changed its bytes: %x", whole)
		}
		if s != Text(slices.Clone(before[:n])) {
			t.Errorf("P11.1: Text(%x) = %q reads what stands behind its bytes", before[:n], s)
		}
	}
}

// An answer is new memory, even where it is what was handed in, and nothing of it is kept.
func TestAnswersAreNew(t *testing.T) {
	for _, s := range written[1:] {
		got, ok := Of(s)
		if ok && unsafe.StringData(got) == unsafe.StringData(s) {
			t.Errorf("Of(%q) shares the argument's memory", s)
		}
		one, ok := Bytes(s)
		two, _ := Bytes(s)
		if !ok {
			continue
		}
		want := slices.Clone(two)
		one = one[:cap(one)]
		for i := range one {
			one[i]++
		}
		if again, _ := Bytes(s); !bytes.Equal(two, want) || !bytes.Equal(again, want) {
			t.Errorf("Bytes(%q) share memory from call to call: %x, %x", s, two, again)
		}
	}
	b := []byte{1, 2, 3}
	s := Text(b)
	b[0] = 255
	if s != "AQID" {
		t.Errorf("Text keeps its bytes: %q", s)
	}
}

func TestVeryLongTexts(t *testing.T) {
	const length = 1_000_000
	for n := length; n < length+3; n++ {
		b := make([]byte, n)
		for i := range b {
			b[i] = byte(i * i >> 3)
		}
		s := Text(b)
		if s != base64.StdEncoding.EncodeToString(b) {
			t.Errorf("P11.1: Text of %d bytes", n)
		}
		if back, ok := Bytes(s); !bytes.Equal(back, b) || !ok {
			t.Errorf("P11.3: Bytes of the text of %d bytes: %d, %v", n, len(back), ok)
		}
		spaced := strings.ReplaceAll(s, "/", " \r\n\t/ ")
		if got, ok := Of(spaced); got != s || !ok {
			t.Errorf("P11.2: Of of %d bytes: %d bytes, %v", len(spaced), len(got), ok)
		}
		for _, wrong := range []string{s + "A", s + "=", s + "AR==", "=" + s, s + "-AAA", s[1:], "AA==" + s} {
			if got, ok := Of(wrong); got != "" || ok {
				t.Errorf("P11.2: Of of %d bytes: %d bytes, %v", len(wrong), len(got), ok)
			}
		}
	}
	blanks := strings.Repeat(" \t\r\n", length)
	if got, ok := Of(blanks); got != "" || !ok {
		t.Errorf("P11.2: Of of blanks: %d bytes, %v", len(got), ok)
	}
	if got, ok := Of(blanks + "A" + blanks + "Q" + blanks + "I" + blanks + "=" + blanks); got != "AQI=" || !ok {
		t.Errorf("P11.2: Of of blanks between: %d bytes, %v", len(got), ok)
	}
}

func TestChapterExamples(t *testing.T) {
	if s := Text([]byte{1, 2}); s != "AQI=" {
		t.Errorf("P11.1: Text of 1, 2 = %q", s)
	}
	for _, s := range []string{"AQI", "AR=="} {
		if got, ok := Of(s); got != "" || ok {
			t.Errorf("P11.2: Of(%q) = %q, %v", s, got, ok)
		}
	}
}

func FuzzTexts(f *testing.F) {
	for _, s := range written {
		f.Add(s)
	}
	f.Add("A Q\nI\r=\t")
	f.Add("AR==")
	f.Fuzz(func(t *testing.T, s string) {
		check(t, s)
		checkBytes(t, []byte(s))
	})
}
