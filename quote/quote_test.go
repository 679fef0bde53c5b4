package quote_test

import (
	"fmt"
	"slices"
	"strings"
	"testing"

	"tidewaiter/quote"
)

// edges: signs at and about each number of bytes, about the numbers that are none, and those that are told otherwise.
var edges = []int{
	0, 1, '\t', '\n', '\r', 31, ' ', '!', '"', '#', '0', 'A', 'X', '[', '\\', ']', 'a', 'n', 'u', 'x', '{', '}', '~', 127,
	128, 129, 0xA0, 0xE4, 0xFF, 0x100, 0x7FE, 0x7FF,
	0x800, 0x801, 0x20AC, 0x2028, 0xD7FE, 0xD7FF, 0xE000, 0xE001, 0xFEFF, 0xFFFC, 0xFFFD, 0xFFFE, 0xFFFF,
	0x10000, 0x10001, 0x1F600, 0xFFFFF, 0x100000, 0x10FFFE, 0x10FFFF,
}

// strayTexts: bytes none of which is of a sign.
var strayTexts = []string{
	"\x80", "\xBF", "\xC0", "\xC1", "\xC2", "\xDF", "\xE0", "\xED", "\xEF", "\xF0", "\xF4", "\xF5", "\xFE", "\xFF",
	"\x80\x80", "\xFF\xFE", "\xC3\xC3", "\xE2\x82", "\xEF\xBF", "\xF0\x9F", "\xF0\x9F\x98", "\xF4\x8F\xBF",
	"\xC0\x80", "\xC1\xBF", "\xE0\x80\x80", "\xE0\x9F\xBF", "\xF0\x80\x80\x80", "\xF0\x8F\xBF\xBF",
	"\xED\xA0\x80", "\xED\xAF\xBF", "\xED\xB0\x80", "\xED\xBF\xBF",
	"\xF4\x90\x80\x80", "\xF5\x80\x80\x80", "\xF7\xBF\xBF\xBF", "\xF8\x88\x80\x80\x80", "\xFC\x84\x80\x80\x80\x80",
}

func isSign(n int) bool {
	return n >= 0 && n <= 0x10FFFF && (n < 0xD800 || n > 0xDFFF)
}

// encoded: a sign's bytes, the fewest, by RFC 3629.
func encoded(n int) string {
	switch {
	case n < 0x80:
		return string([]byte{byte(n)})
	case n < 0x800:
		return string([]byte{0xC0 + byte(n>>6), 0x80 + byte(n&0x3F)})
	case n < 0x10000:
		return string([]byte{0xE0 + byte(n>>12), 0x80 + byte(n>>6&0x3F), 0x80 + byte(n&0x3F)})
	}
	return string([]byte{0xF0 + byte(n>>18), 0x80 + byte(n>>12&0x3F), 0x80 + byte(n>>6&0x3F), 0x80 + byte(n&0x3F)})
}

// front: the sign at the front of s and how many bytes it has, or the stray byte there: tried with each number of bytes.
func front(s string) (int, int) {
	for size := 1; size <= 4 && size <= len(s); size++ {
		n := int(s[0])
		if size > 1 {
			n = int(s[0] & (0x7F >> size))
		}
		for _, b := range []byte(s[1:size]) {
			n = n<<6 | int(b&0x3F)
		}
		if isSign(n) && encoded(n) == s[:size] {
			return n, size
		}
	}
	return -1 - int(s[0]), 1
}

// signs: what Signs should answer.
func signs(s string) []int {
	var l []int
	for s != "" {
		n, size := front(s)
		l = append(l, n)
		s = s[size:]
	}
	return l
}

// quoted: what Quote should answer.
func quoted(s string) string {
	q := `"`
	for _, n := range signs(s) {
		switch {
		case n < 0:
			q += fmt.Sprintf(`\x%02x`, -1-n)
		case n == '"' || n == '\\':
			q += `\` + encoded(n)
		case n < 32 || n > 126:
			q += fmt.Sprintf(`\u{%x}`, n)
		default:
			q += encoded(n)
		}
	}
	return q + `"`
}

// texts: signs, stray bytes, and each of them behind each other one.
func texts() []string {
	l := []string{""}
	for _, n := range edges {
		l = append(l, encoded(n))
	}
	l = append(l, strayTexts...)
	for _, a := range slices.Clone(l) {
		for _, b := range l[:1+len(edges)+len(strayTexts)] {
			l = append(l, a+b)
		}
	}
	return append(l, "a b~", "\xF0\x9F\x98a\x80\u20ac\x82\"\\n\\u{61}\\xff\"", strings.Repeat("\u00e4\xC3\n", 500))
}

func check(t *testing.T, s string) {
	t.Helper()
	if got, want := quote.Signs(s), signs(s); !slices.Equal(got, want) {
		t.Errorf("Signs(%q) = %d, want %d", s, got, want)
	}
	q := quoted(s)
	if got := quote.Quote(s); got != q {
		t.Errorf("Quote(%q) = %s, want %s", s, got, q)
	}
	checkUnquote(t, q, s, true)
}

func checkUnquote(t *testing.T, q, want string, wantOK bool) {
	t.Helper()
	if got, ok := quote.Unquote(q); got != want || ok != wantOK {
		t.Errorf("Unquote(%q) = %q, %t, want %q, %t", q, got, ok, want, wantOK)
	}
}

// P4.1: known texts' signs, stray bytes among them.
func TestSignsOfKnownTexts(t *testing.T) {
	for _, x := range []struct {
		s    string
		want []int
	}{
		{"", nil},
		{"\x00", []int{0}},
		{"abc", []int{97, 98, 99}},
		{"a\u00e4\u20ac\U0001F600", []int{97, 0xE4, 0x20AC, 0x1F600}},
		{"\U0010FFFF\u0080\u0800\U00010000", []int{0x10FFFF, 0x80, 0x800, 0x10000}},
		{"\xFF", []int{-256}},
		{"\x80", []int{-129}},
		{"\ufffd\xFF\ufffd", []int{0xFFFD, -256, 0xFFFD}},
		{"\xEF\xBF", []int{-240, -192}},
		{"\xEF\xBF\ufffd", []int{-240, -192, 0xFFFD}},
		{"\xE2\x82a", []int{-227, -131, 97}},
		{"\xE2\xE2\x82\xAC\xAC", []int{-227, 0x20AC, -173}},
		{"\xC0\x80", []int{-193, -129}},
		{"\xED\xA0\x80", []int{-238, -161, -129}},
		{"\xF4\x90\x80\x80", []int{-245, -145, -129, -129}},
		{"\xC3\xA4", []int{0xE4}},
		{"\xC3", []int{-196}},
	} {
		if got := quote.Signs(x.s); !slices.Equal(got, x.want) {
			t.Errorf("Signs(%q) = %d, want %d", x.s, got, x.want)
		}
	}
}

// P4.1, P4.2: each sign there is.
func TestAllSigns(t *testing.T) {
	for n := range 0x110000 {
		if !isSign(n) {
			continue
		}
		s := encoded(n)
		if got := quote.Signs(s); len(got) != 1 || got[0] != n {
			t.Fatalf("Signs(%q) = %d, want %d", s, got, n)
		}
		if !quote.Has(s, n) {
			t.Fatalf("Has(%q, %d) = false", s, n)
		}
		if got, want := quote.Quote(s), quoted(s); got != want {
			t.Fatalf("Quote(%q) = %s, want %s", s, got, want)
		}
		if got, ok := quote.Unquote(quoted(s)); got != s || !ok {
			t.Fatalf("Unquote(%s) = %q, %t", quoted(s), got, ok)
		}
	}
}

// P4.1, P4.2: signs and stray bytes, and each two of them, against reading by each number of bytes.
func TestTextsOfTwo(t *testing.T) {
	for _, s := range texts() {
		check(t, s)
	}
}

// P4.1, P4.2: all texts of up to two bytes, and those of up to four at which signs begin, end, or are too long.
func TestAllShortTexts(t *testing.T) {
	for a := range 256 {
		check(t, string([]byte{byte(a)}))
		for b := range 256 {
			check(t, string([]byte{byte(a), byte(b)}))
		}
	}
	bytes := []byte{0, '"', '\\', 'a', 0x7F, 0x80, 0x8F, 0x90, 0x9F, 0xA0, 0xBF, 0xC0, 0xC2, 0xDF, 0xE0, 0xE1, 0xED, 0xEF, 0xF0, 0xF1, 0xF4, 0xF5, 0xFF}
	for _, a := range bytes {
		for _, b := range bytes {
			for _, c := range bytes {
				check(t, string([]byte{a, b, c}))
				for _, d := range bytes {
					if s := string([]byte{a, b, c, d}); !slices.Equal(quote.Signs(s), signs(s)) || quote.Quote(s) != quoted(s) {
						check(t, s)
					}
				}
			}
		}
	}
}

// P4.1: Has tells signs wherever they stand, and nothing else.
func TestHas(t *testing.T) {
	for _, x := range []struct {
		s    string
		sign int
		want bool
	}{
		{"", 0, false},
		{"", -1, false},
		{"\x00", 0, true},
		{"abc", 'a', true},
		{"abc", 'b', true},
		{"abc", 'c', true},
		{"abc", 'd', false},
		{"abc", 'A', false},
		{"a\u00e4", 0xE4, true},
		{"\xC3\xA4", 0xC3, false},
		{"\xC3\xA4", 0xA4, false},
		{"\xE4", 0xE4, false},
		{"\xE4", -1 - 0xE4, false},
		{"\xFF", -256, false},
		{"\xFF", 0xFFFD, false},
		{"\xEF\xBF", 0xFFFD, false},
		{"\ufffd", 0xFFFD, true},
		{"\xFF\ufffd", 0xFFFD, true},
		{"\xEF\xBF\xBD", 0xEF, false},
		{"\U0010FFFF", 0x10FFFF, true},
		{"\U0010FFFF", 0x110000, false},
		{"\xF4\x90\x80\x80", 0x110000, false},
		{"\xED\xA0\x80", 0xD800, false},
		{"a", 1<<32 + 'a', false},
		{"a", -1<<32 + 'a', false},
		{"a", -1<<63 + 'a', false},
		{"a", -1 << 63, false},
		{"a", 1<<63 - 1, false},
		{"\x00", 1 << 32, false},
		{"\x00", -1 << 63, false},
	} {
		if got := quote.Has(x.s, x.sign); got != x.want {
			t.Errorf("Has(%q, %d) = %t", x.s, x.sign, got)
		}
	}
}

// P4.1: Has is whether a number of a sign, not of a stray byte, is among what Signs should answer.
func TestHasOfTextsOfTwo(t *testing.T) {
	for _, s := range texts() {
		l := signs(s)
		for _, sign := range append([]int{-256, -1, 0xD800, 0x110000, 0xC3}, l...) {
			if got, want := quote.Has(s, sign), sign >= 0 && slices.Contains(l, sign); got != want {
				t.Errorf("Has(%q, %d) = %t, want %t", s, sign, got, want)
			}
		}
	}
}

// P4.2: known texts in marks and back, the document's example among them.
func TestQuoteOfKnownTexts(t *testing.T) {
	for s, q := range map[string]string{
		"":                  `""`,
		"a\n\xFF":           `"a\u{a}\xff"`,
		"a b~":              `"a b~"`,
		"\x00\x1F \x7E\x7F": `"\u{0}\u{1f} ~\u{7f}"`,
		"\"":                `"\""`,
		"\\":                `"\\"`,
		"\\\"":              `"\\\""`,
		"\\n'/":             `"\\n'/"`,
		"\\u{a}\\xff":       `"\\u{a}\\xff"`,
		"\u00e4\u20ac":      `"\u{e4}\u{20ac}"`,
		"\ufffd\U0010FFFF":  `"\u{fffd}\u{10ffff}"`,
		"\x80\xAB\xFF":      `"\x80\xab\xff"`,
		"\xC3\"\xA4":        `"\xc3\"\xa4"`,
		"\xEF\xBF":          `"\xef\xbf"`,
	} {
		if got := quote.Quote(s); got != q {
			t.Errorf("Quote(%q) = %s, want %s", s, got, q)
		}
		checkUnquote(t, q, s, true)
	}
}

// P4.2: what is no Quote of any text.
func TestUnquoteOfWrongTexts(t *testing.T) {
	for _, inside := range []string{
		// The mark and the backslash by themselves, and what has no meaning behind a backslash.
		`"`, `\`, `\\\`, `a"b`, `\a`, `\n`, `\ `, `\0`, `\X80`, `\U{e4}`, "\\\xFF", "\\\u00e4",
		// Stray bytes: too few digits, wrong ones, great ones, none that is stray, those that are a sign together.
		`\x`, `\x8`, `\x8g`, `\xg8`, `\x-8`, `\x+8`, `\xFF`, `\xfF`, `\x{ff}`, `\x00`, `\x41`, `\x7f`, `\x\ff`,
		`\xc3\xa4`, `\xe2\x82\xac`, `\xef\xbf\xbd`, `\xf0\x9f\x98\x80`, `a\xc2\x80b`, "\\xc3\xA4", "\xC3\\xa4",
		// Signs by their numbers: without all of the braces, without digits, with wrong ones, or with noughts ahead.
		`\u`, `\ua`, `\u{`, `\u}`, `\u{}`, `\u{a`, `\ua}`, `\u{{a}}`, `\u{g}`, `\u{-1}`, `\u{+a}`, `\u{ a}`, `\u{a }`, `\u{1_0}`,
		`\u{0x1f}`, `\u{A}`, `\u{1F}`, `\u{0a}`, `\u{00}`, `\u{000e4}`, `\u{\u{a}}`, `\u{a,b}`,
		// Numbers of signs that stand as they are, or by a backslash.
		`\u{20}`, `\u{61}`, `\u{7e}`, `\u{22}`, `\u{5c}`,
		// Numbers of no sign.
		`\u{d800}`, `\u{dbff}`, `\u{dc00}`, `\u{dfff}`, `\u{110000}`, `\u{1fffff}`, `\u{7fffffff}`, `\u{80000000}`, `\u{ffffffff}`,
		`\u{100000000}`, `\u{10000000a}`, `\u{ffffffffffffffff}`, `\u{1000000000000000a}`, `\u{` + strings.Repeat("f", 1000) + `}`,
		// Signs and stray bytes that don't stand as they are.
		"\n", "\x00", "\x1F", "\x7F", "\u00e4", "\ufffd", "\U0001F600", "\xFF", "\x80", "a\nb",
	} {
		checkUnquote(t, `"`+inside+`"`, "", false)
		checkUnquote(t, `"ab`+inside+`yz"`, "", false)
	}
}

// P4.2: marks that are not there, or not where they should be.
func TestUnquoteOfWrongMarks(t *testing.T) {
	for _, q := range []string{"", `"`, `"""`, `""""`, `\`, `\"`, `"\"`, `\""`, "a", `"a`, `a"`, ` "a"`, `"a" `, `"a"b`, `b"a"`, `'a'`, "`a`", `"a"b"`, `"a""b"`, "\"a\"\n"} {
		checkUnquote(t, q, "", false)
	}
}

// P4.2: all short texts of what quotes are made of are the Quote of the text that has it, or of none.
func TestUnquoteOfAllShortTexts(t *testing.T) {
	quotes := map[string]string{}
	for a := range 256 {
		quotes[quoted(string([]byte{byte(a)}))] = string([]byte{byte(a)})
	}
	var grow func(s string)
	grow = func(s string) {
		quotes[quoted(s)] = s
		if len(s) < 5 {
			for _, b := range []byte(`"\xu{}8fa`) {
				grow(s + string([]byte{b}))
			}
		}
	}
	grow("")
	var try func(q string)
	try = func(q string) {
		s, ok := quotes[q]
		if got, gotOK := quote.Unquote(q); got != s || gotOK != ok {
			checkUnquote(t, q, s, ok)
		}
		if len(q) < 6 {
			for _, b := range []byte(`"\xu{}8fa`) {
				try(q + string([]byte{b}))
			}
		}
	}
	try("")
	if s, ok := quotes[`"\x8a"`]; s != "\x8A" || !ok {
		t.Error("the texts that are tried have no stray byte")
	}
}

// P4.2: a Quote with a byte that is left out, put in or changed is the Quote of what is answered, or nothing is.
func TestUnquoteOfChangedQuotes(t *testing.T) {
	for _, s := range []string{"", "ab", "\"\\", "a\n\xFF", "\u00e4\x80\ufffd", "\xC3\"\xA4", "\U0010FFFF\\x80"} {
		q := quoted(s)
		for place := range len(q) {
			checkFound(t, q[:place])
			checkFound(t, q[place:])
			checkFound(t, q[:place]+q[place+1:])
			for b := range 256 {
				checkFound(t, q[:place]+string([]byte{byte(b)})+q[place:])
				checkFound(t, q[:place]+string([]byte{byte(b)})+q[place+1:])
			}
		}
	}
}

// checkFound: what Unquote answers has that Quote; else it answers nothing.
func checkFound(t *testing.T, q string) {
	t.Helper()
	got, ok := quote.Unquote(q)
	if ok && quoted(got) != q || !ok && got != "" {
		t.Errorf("Unquote(%q) = %q, %t", q, got, ok)
	}
}

// P2: what is answered isn't changed by a caller who changes another answer.
func TestSignsAreNew(t *testing.T) {
	first := quote.Signs("ab\xFF")
	clear(first[:cap(first)])
	if got := quote.Signs("ab\xFF"); !slices.Equal(got, []int{97, 98, -256}) {
		t.Errorf("Signs, when another answer was cleared: %d", got)
	}
}

// P1, P4.1, P4.2: any text there and back; any text as a Quote.
func FuzzQuoteAndUnquote(f *testing.F) {
	for _, s := range append([]string{"", "a b", "\u00e4\n\"\\"}, strayTexts...) {
		f.Add(s)
		f.Add(quoted(s))
	}
	f.Fuzz(func(t *testing.T, s string) {
		check(t, s)
		checkFound(t, s)
		checkFound(t, `"`+s+`"`)
		for _, n := range signs(s) {
			if quote.Has(s, n) != (n >= 0) {
				t.Errorf("Has(%q, %d) = %t", s, n, n < 0)
			}
		}
	})
}
