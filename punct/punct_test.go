package punct_test

import (
	"strings"
	"testing"
	"unicode/utf8"

	"tidewaiter/api"
	"tidewaiter/punct"
)

// times: of records, at both ends and about 0.
var times = []int{
	api.Least, api.Least + 1, api.Least / 2, -1000, -1, 0, 1, 1000, api.Most / 2, api.Most - 1, api.Most,
}

// kinds: those of records, and others.
var kinds = []int{api.Data, api.Punct, 0, -1, -2, 3, 1<<32 + api.Punct, api.Least, api.Most}

// signs: with each number of bytes, and at the ends of these.
var signs = []int{
	0, 1, '\n', ' ', '!', '"', 'a', 0x7F, 0x80, 0xE4, 0xFF, 0x7FF, 0x800, 0x20AC, 0xD7FF, 0xE000, 0xFFFD, 0xFFFF,
	0x10000, 0x1F600, 0x10FFFF,
}

// noSigns: numbers of no sign, among them such as stray bytes are told by, or as are a sign's if they are cut off.
var noSigns = []int{
	-1, -0x81, -0x100, 0xD800, 0xDBFF, 0xDC00, 0xDFFF, 0x110000, 0x1FFFFF, 1 << 32, 1<<32 + '!', -1<<32 + '!', -1<<63 + '!',
	api.Least, api.Most,
}

// texts: with signs at all places, and with bytes of none.
func texts() []string {
	l := []string{
		"", "ab", "\x80", "\xE4", "\xFF", "\xEF\xBF", "\xE2\x82", "\xE2\x82!", "\xC3\xC3\xA4", "\xED\xA0\x80", "\xF4\x90\x80\x80",
		"\xC0\xA1", "\xFFa\xFF", "a\u0308", "\\u{21}", "21",
	}
	for _, sign := range signs {
		s := string(rune(sign))
		l = append(l, s, "x"+s, s+"y", "x"+s+"y", "\xFF"+s, s+"\xE2\x82", s+s, s+"!")
	}
	return l
}

// has: a sign's bytes are never a part of other ones' bytes, so that it is enough to look for them.
func has(text string, sign int) bool {
	return sign >= 0 && sign <= utf8.MaxRune && utf8.ValidRune(rune(sign)) && strings.Contains(text, string(rune(sign)))
}

// says: what Says should answer.
func says(r api.Record, sign int) bool { return r.Kind == 2 || has(r.Text, sign) }

// data: a record of that time and text, that says something by its text alone.
func data(time int, text string) api.Record {
	return api.Record{Kind: api.Data, Time: time, Text: text}
}

// told: a record of that time, that says how far time has come, whatever the sign.
func told(time int) api.Record { return api.Record{Kind: api.Punct, Time: time} }

func checkSays(t *testing.T, r api.Record, sign int, want bool) {
	t.Helper()
	if got := punct.Says(r, sign); got != want {
		t.Errorf("Says(%q, %d) = %t, want %t", r.Text, sign, got, want)
	}
}

func checkGen(t *testing.T, g *punct.Gen, sign, now int) {
	t.Helper()
	// Twice, as asking changes nothing.
	for range 2 {
		if got := g.Now(); got != now {
			t.Fatalf("of the sign %d Now = %d, want %d", sign, got, now)
		}
		if got := g.Sign(); got != sign {
			t.Fatalf("Sign = %d, want %d", got, sign)
		}
	}
}

// checkSeen: these records, one behind the other, asked behind each.
func checkSeen(t *testing.T, sign int, l []api.Record) {
	t.Helper()
	g := punct.New(sign)
	now := api.Never
	checkGen(t, g, sign, now)
	for _, r := range l {
		g.Seen(r)
		if says(r, sign) {
			now = max(now, r.Time)
		}
		checkGen(t, g, sign, now)
	}
}

// P11.1: the document's example.
func TestTheDocumentsExample(t *testing.T) {
	g := punct.New('!')
	g.Seen(data(9, "a"))
	checkGen(t, g, '!', api.Never)
	g.Seen(data(4, "b!"))
	checkGen(t, g, '!', 4)
}

// P11.1: known records.
func TestSays(t *testing.T) {
	for _, x := range []struct {
		kind int
		text string
		sign int
		want bool
	}{
		{api.Data, "", '!', false},
		{api.Data, "a", '!', false},
		{api.Data, "!", '!', true},
		{api.Data, "!ab", '!', true},
		{api.Data, "a!b", '!', true},
		{api.Data, "ab!", '!', true},
		{api.Punct, "ab!", '!', true},
		{api.Punct, "ab", '!', true},
		{api.Punct, "", '!', true},
		{api.Punct, "", -1, true},
		{api.Punct, "\xFF", 0x110000, true},
		{api.Data, "", 0, false},
		{api.Data, "\x00", 0, true},
		{api.Data, "33", 33, false},
		{api.Data, "\u20ac", 0x20AC, true},
		{api.Data, "\u20ac", 0xE2, false},
		{api.Data, "\u20ac", 0xAC, false},
		{api.Data, "\xE2\x82", 0x20AC, false},
		{api.Data, "\xE2\x82\xE2\x82\xAC", 0x20AC, true},
		{api.Data, "\xFF", 0xFFFD, false},
		{api.Data, "\ufffd", 0xFFFD, true},
		{api.Data, "\xFF", 0xFF, false},
		{api.Data, "\xFF", -0x100, false},
		{api.Data, "\u00ff", 0xFF, true},
		{api.Data, "\U0010FFFF", 0x10FFFF, true},
		{api.Data, "\xF4\x90\x80\x80", 0x110000, false},
		{api.Data, "\xED\xA0\x80", 0xD800, false},
		{api.Data, "!", 1<<32 + '!', false},
		{0, "", 0, false},
		{0, "!", '!', true},
		{3, "a", '!', false},
		{3, "a!", '!', true},
		{-2, "a", '!', false},
		{-2, "a!", '!', true},
	} {
		checkSays(t, api.Record{Kind: x.kind, Time: 5, Text: x.text}, x.sign, x.want)
	}
}

// P11.1: each of the texts, by each of the signs, and by what is none, of each kind.
func TestSaysOfEach(t *testing.T) {
	for _, kind := range kinds {
		for _, text := range texts() {
			for _, l := range [][]int{signs, noSigns} {
				for _, sign := range l {
					r := api.Record{Kind: kind, Time: -3, Text: text}
					checkSays(t, r, sign, says(r, sign))
				}
			}
		}
	}
}

// P11.1: a Time is of no matter to whether a record says how far time has come.
func TestSaysOfEachTime(t *testing.T) {
	for _, time := range times {
		checkSays(t, told(time), '!', true)
		checkSays(t, data(time, "!"), '!', true)
		checkSays(t, data(time, "a"), '!', false)
	}
}

// P11.1: of each sign, and of what is none; nothing is known as long as none was seen.
func TestNew(t *testing.T) {
	for _, l := range [][]int{signs, noSigns} {
		for _, sign := range l {
			checkGen(t, punct.New(sign), sign, api.Never)
		}
	}
}

// P11.1: the latest one that says so counts, in any order; those that don't are of no matter, however late.
func TestSeen(t *testing.T) {
	for _, l := range [][]api.Record{
		{data(9, "a"), data(4, "b!"), data(5, "c"), data(5, "!"), data(3, "!!"), data(100, "")},
		{told(9), told(4), told(9), told(10), data(11, "!"), data(10, "!"), told(12)},
		{data(-7, "!"), told(-9), told(-5), data(-1, "x"), data(-2, "x!"), told(0)},
		{data(0, "a"), told(0), told(-1), data(0, "!")},
		{{Kind: 0, Time: 8}, {Kind: 3, Time: 8}, {Kind: 3, Time: 7, Text: "a!"}, {Kind: -2, Time: 8, Text: "a!b"}},
		{told(api.Least), told(api.Least + 1), told(api.Least), data(api.Most, "a"), data(api.Most, "!"), told(0)},
		{data(api.Most, "\xA1"), data(5, "\u00a1"), data(4, "!")},
	} {
		for _, sign := range []int{'!', 0xA1, 'a', 0, -1, 0xD800, 0x110000} {
			checkSeen(t, sign, l)
		}
	}
}

// P11.1: each two times, each of both or none.
func TestSeenOfEachTwo(t *testing.T) {
	records := func(time int) []api.Record {
		return []api.Record{data(time, "a"), data(time, "a!"), told(time)}
	}
	for _, a := range times {
		for _, b := range times {
			for _, first := range records(a) {
				for _, second := range records(b) {
					checkSeen(t, '!', []api.Record{first, second})
				}
			}
		}
	}
}

// P11.1: each of the texts, one behind the other at rising times, by each of the signs, and by what is none.
func TestSeenOfEachText(t *testing.T) {
	var l []api.Record
	for i, text := range texts() {
		l = append(l, data(i-20, text))
	}
	for _, all := range [][]int{signs, noSigns} {
		for _, sign := range all {
			checkSeen(t, sign, l)
		}
	}
}

// P2: Gens have nothing in common.
func TestGensAreApart(t *testing.T) {
	a, b, same := punct.New('a'), punct.New('b'), punct.New('a')
	a.Seen(data(10, "ab"))
	checkGen(t, a, 'a', 10)
	checkGen(t, b, 'b', api.Never)
	checkGen(t, same, 'a', api.Never)
	b.Seen(data(100, "ab"))
	checkGen(t, a, 'a', 10)
	checkGen(t, b, 'b', 100)
	checkGen(t, same, 'a', api.Never)
}

// P11.1: many records, a part of which say how far time has come, and a long text.
func TestManyRecords(t *testing.T) {
	g := punct.New('!')
	const many = 1000000
	for i := range many {
		text := "a"
		if i%10 == 0 {
			text = "a!"
		}
		g.Seen(data(i, text))
	}
	checkGen(t, g, '!', many-10)
	long := strings.Repeat("a\u20ac\xFF", 100000)
	g.Seen(data(many, long))
	checkGen(t, g, '!', many-10)
	g.Seen(data(many, long+"!"))
	checkGen(t, g, '!', many)
}

// P1, P11.1: any sign, and any record behind another one.
func FuzzGen(f *testing.F) {
	f.Add('!', api.Data, 9, "a", api.Data, 4, "b!")
	f.Add(rune(0x20AC), api.Punct, api.Most, "", api.Data, api.Least, "\xE2\x82\xAC")
	f.Add(rune(-1), 0, 0, "\xFF", 3, -1, "\x00")
	f.Fuzz(func(t *testing.T, sign rune, kindA, timeA int, textA string, kindB, timeB int, textB string) {
		a := api.Record{Kind: kindA, Time: timeA, Text: textA}
		b := api.Record{Kind: kindB, Time: timeB, Text: textB}
		checkSays(t, a, int(sign), says(a, int(sign)))
		checkSeen(t, int(sign), []api.Record{a, b})
	})
}
