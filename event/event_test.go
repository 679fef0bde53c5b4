package event_test

import (
	"fmt"
	"math/big"
	"regexp"
	"slices"
	"strings"
	"testing"
	"unsafe"

	"tidewaiter/api"
	"tidewaiter/event"
	"tidewaiter/quote"
)

// edges: numbers at both ends, about 0, and about those at which there is one digit more.
var edges = []int{
	api.Least, api.Least + 1, -1<<53 - 1, -1 << 32, -101, -100, -99, -10, -9, -2, -1, 0, 1, 2, 3, 9, 10, 11, 99, 100, 101,
	4096, 1<<31 - 1, 1 << 31, 1 << 32, 1<<53 + 1, api.Most - 1, api.Most,
}

// texts: with all that stands in marks otherwise than it is, and with what might be taken for the end of one.
var texts = []string{
	"", "a", " ", "  ", "a b", " a ", "\n", "a\nb", "\"", "\\", "\" \"", "\\\"", "\\u{a}", "\\xff", "\x00", "\x7f", "\t", "\r\n",
	"\xff", "\xe4", "\xc3\xa4", "\u00e4", "\ufffd", "\u2028", "\U0001f30a", "\xed\xa0\x80", "mark 5", "late 0 1 7 \"a\"", "5", "-1", strings.Repeat("long ", 1000),
}

// wrongLines: those of no event.
var wrongLines = []string{
	"", " ", "\n", "x", "5", "mark", "fault", "element", "late", "mark ", "fault ", "element ", "late ",
	"mark  5", " mark 5", "mark 5 ", "mark 5\n", "\nmark 5", "mark 5\r", "mark\t5", "mark\n5", "mark5", "Mark 5", "MARK 5", "marks 5", "mar 5", "mark \"5\"", "mark 5 6", "mark 5 \"a\"", "mark x", "mark 05", "mark +5", "mark -0", "mark -05", "mark 5.0", "mark 1e3", "mark 0x5", "mark 1_0", "mark --5", "mark -",
	"mark 9223372036854775808", "mark -9223372036854775809", "mark 18446744073709551616",
	"fault 1", "fault 1 ", "fault  1 2", "fault 1  2", " fault 1 2", "fault 1 2 ", "fault 1 2 3", "fault 1 2\n", "fault 01 2", "fault 1 02", "fault 1 +2", "fault -0 2", "fault x 2", "fault 1 x", "fault 1 \"a\"", "Fault 1 2", "faults 1 2", "fault 1 9223372036854775808", "fault 9223372036854775808 1", "fault 1 errno", "fault 1 errno 2",
	"element 1", "element 1 1", "element 1 1 7", "element 1 1 7 ", "element 1 1 7 a", "element 1 1 \"a\"", "element 1 \"a\"", "element \"a\"", "element 1 1 7 8 \"a\"", "element 1 1 7  \"a\"", "element 1 1  7 \"a\"", "element 1  1 7 \"a\"", "element  1 1 7 \"a\"", " element 1 1 7 \"a\"", "element 1 1 7 \"a\" ", "element 1 1 7 \"a\"\n", "element 1 1 7 \"a\" \"b\"",
	"element 01 1 7 \"a\"", "element 1 01 7 \"a\"", "element 1 1 07 \"a\"", "element +1 1 7 \"a\"", "element 1 +1 7 \"a\"", "element 1 1 +7 \"a\"", "element 1 1 -0 \"a\"", "element x 1 7 \"a\"", "element 1 x 7 \"a\"", "element 1 1 x \"a\"",
	"element 9223372036854775808 1 7 \"a\"", "element 1 9223372036854775808 7 \"a\"", "element 1 1 9223372036854775808 \"a\"", "element 1 1 -9223372036854775809 \"a\"",
	"element 1 1 7 \"", "element 1 1 7 \"a", "element 1 1 7 a\"", "element 1 1 7 'a'", "element 1 1 7 \"\"\"", "element 1 1 7 \"\\\"", "element 1 1 7 \"\n\"", "element 1 1 7 \"\\n\"", "element 1 1 7 \"\\u{A}\"", "element 1 1 7 \"\\u{0a}\"", "element 1 1 7 \"\\u{61}\"", "element 1 1 7 \"\\xFF\"", "element 1 1 7 \"\\x61\"", "element 1 1 7 \"\xff\"", "element 1 1 7 \"\u00e4\"",
	"lates 1 1 7 \"a\"", "lat 1 1 7 \"a\"", "Late 1 1 7 \"a\"", "late 1 1 7 \"a\" ", "late 1 1 7", "late 1 1 7 8 \"a\"", "late element 1 1 7 \"a\"", "element late 1 1 7 \"a\"", "late1 1 7 \"a\"", "elements 1 1 7 \"a\"", "Element 1 1 7 \"a\"",
	"poll 3", "tick 5", "source 5 10", "bounded 3", "mark 5\nmark 6", "mark 5\n\n",
	"mark \u0665", "mark\u00a05", "mark \u22125", "mark 5\x00", "\x00mark 5", "\xffmark 5",
}

// lineOf: what Line should answer.
func lineOf(e event.Event) string {
	switch e := e.(type) {
	case event.Element:
		return fmt.Sprintf("%s %d %d %d %s", map[bool]string{false: "element", true: "late"}[e.Late], e.Part, e.Record.Kind, e.Record.Time, quote.Quote(e.Record.Text))
	case event.Mark:
		return fmt.Sprintf("mark %d", e.At)
	case event.Fault:
		return fmt.Sprintf("fault %d %d", e.Part, int(e.Err))
	}
	panic("another type")
}

const number = `(0|-?[1-9][0-9]*)`

var (
	elementShape = regexp.MustCompile(`\A(element|late) ` + number + ` ` + number + ` ` + number + ` ((?s).*)\z`)
	markShape    = regexp.MustCompile(`\Amark ` + number + `\z`)
	faultShape   = regexp.MustCompile(`\Afault ` + number + ` ` + number + `\z`)
)

// ints: the numbers of words, by whole numbers of any size.
func ints(words []string) ([]int, bool) {
	var l []int
	for _, w := range words {
		n, ok := new(big.Int).SetString(w, 10)
		if !ok || !n.IsInt64() {
			return nil, false
		}
		l = append(l, int(n.Int64()))
	}
	return l, true
}

// read: what Read should answer.
func read(s string) (event.Event, bool) {
	if m := elementShape.FindStringSubmatch(s); m != nil {
		l, ok := ints(m[2:5])
		text, is := quote.Unquote(m[5])
		if !ok || !is {
			return nil, false
		}
		return event.Element{Part: l[0], Record: api.Record{Kind: l[1], Time: l[2], Text: text}, Late: m[1] == "late"}, true
	}
	if m := markShape.FindStringSubmatch(s); m != nil {
		if l, ok := ints(m[1:]); ok {
			return event.Mark{At: l[0]}, true
		}
	}
	if m := faultShape.FindStringSubmatch(s); m != nil {
		if l, ok := ints(m[1:]); ok {
			return event.Fault{Part: l[0], Err: api.Errno(l[1])}, true
		}
	}
	return nil, false
}

func checkRead(t *testing.T, s string) {
	t.Helper()
	want, is := read(s)
	// Twice, as nothing is kept.
	for range 2 {
		e, ok := event.Read(s)
		if ok != is || (e == nil) == is || is && e != want {
			t.Fatalf("Read(%.200q) = %+v, %v, want %+v, %v", s, e, ok, want, is)
		}
		if ok && e.Line() != s {
			t.Fatalf("Read(%.200q) has the Line %.200q", s, e.Line())
		}
	}
}

// checkLine: an event's line, and back.
func checkLine(t *testing.T, e event.Event) {
	t.Helper()
	s := e.Line()
	if s != lineOf(e) {
		t.Fatalf("Line of %+v = %q, want %q", e, s, lineOf(e))
	}
	if strings.Contains(s, "\n") {
		t.Fatalf("Line of %+v has a line feed", e)
	}
	if back, ok := event.Read(s); !ok || back == nil || back != e {
		t.Fatalf("Read(%q) = %+v, %v", s, back, ok)
	}
	if text := event.Text(e); text != s+"\n" {
		t.Fatalf("Text of %+v = %q", e, text)
	}
}

// some: events of all types, some twice, with zero ones.
func some() []event.Event {
	return []event.Event{
		event.Fault{Part: 3, Err: api.ErrShort},
		event.Element{Part: 1, Record: api.Record{Kind: api.Data, Time: 7, Text: "a b"}},
		event.Mark{At: -5},
		event.Element{Part: 0, Record: api.Record{Kind: api.Punct, Time: -1, Text: "\"\n"}, Late: true},
		event.Mark{},
		event.Element{},
		event.Fault{},
		event.Mark{At: -5},
		event.Mark{At: api.Most},
		event.Element{Part: 1, Record: api.Record{Kind: api.Data, Time: 7, Text: "a b"}},
		event.Element{Part: 1, Record: api.Record{Kind: api.Data, Time: 7, Text: "a b"}, Late: true},
		event.Fault{Part: 4095, Err: api.ErrSum},
	}
}

// P22.1: the document's example.
func TestTheDocumentsExample(t *testing.T) {
	const s = `late 0 1 7 "a"`
	want := event.Element{Part: 0, Record: api.Record{Kind: 1, Time: 7, Text: "a"}, Late: true}
	if e, ok := event.Read(s); e != event.Event(want) || !ok {
		t.Errorf("Read = %+v, %v", e, ok)
	}
	if want.Line() != s {
		t.Errorf("Line = %q", want.Line())
	}
}

// P22.1: known lines.
func TestKnownLines(t *testing.T) {
	for s, e := range map[string]event.Event{
		`element 0 0 0 ""`:               event.Element{},
		`late 0 0 0 ""`:                  event.Element{Late: true},
		`element 3 1 -7 "a b"`:           event.Element{Part: 3, Record: api.Record{Kind: 1, Time: -7, Text: "a b"}},
		`late 3 2 7 "a\u{a}\xff\"\\"`:    event.Element{Part: 3, Record: api.Record{Kind: 2, Time: 7, Text: "a\n\xff\"\\"}, Late: true},
		`element -1 99 -5 "  "`:          event.Element{Part: -1, Record: api.Record{Kind: 99, Time: -5, Text: "  "}},
		`element 1 2 3 "4"`:              event.Element{Part: 1, Record: api.Record{Kind: 2, Time: 3, Text: "4"}},
		`mark 0`:                         event.Mark{},
		`mark 9223372036854775807`:       event.Mark{At: api.Most},
		`mark -9223372036854775808`:      event.Mark{At: api.Never},
		`fault 0 0`:                      event.Fault{},
		`fault 2 5`:                      event.Fault{Part: 2, Err: api.ErrSum},
		`fault -2 -5`:                    event.Fault{Part: -2, Err: -5},
		`fault 4095 9223372036854775807`: event.Fault{Part: 4095, Err: api.Most},
	} {
		if got := e.Line(); got != s {
			t.Errorf("Line of %+v = %q, want %q", e, got, s)
		}
		checkLine(t, e)
		checkRead(t, s)
	}
}

// P22.1: all types, with numbers at the edges, there and back.
func TestLineAndReadOfEdges(t *testing.T) {
	for _, a := range edges {
		checkLine(t, event.Mark{At: a})
		for _, b := range edges {
			checkLine(t, event.Fault{Part: a, Err: api.Errno(b)})
			for _, c := range edges {
				checkLine(t, event.Element{Part: a, Record: api.Record{Kind: b, Time: c, Text: " "}})
				checkLine(t, event.Element{Part: a, Record: api.Record{Kind: b, Time: c}, Late: true})
			}
		}
	}
}

// P22.1: all texts, and each byte, there and back.
func TestLineAndReadOfTexts(t *testing.T) {
	l := slices.Clone(texts)
	for b := range 256 {
		l = append(l, string([]byte{byte(b)}), "a"+string([]byte{byte(b)})+"b", string(rune(b)))
	}
	for _, text := range l {
		for _, late := range []bool{false, true} {
			checkLine(t, event.Element{Part: 1, Record: api.Record{Kind: 2, Time: -3, Text: text}, Late: late})
		}
	}
}

// P22.1: what is no line of any event; the event beside it is nil, and not one of some type.
func TestReadOfWrongLines(t *testing.T) {
	long := []string{
		"mark " + strings.Repeat("9", 1000), "mark " + strings.Repeat("0", 1000), strings.Repeat("mark ", 1<<18), strings.Repeat(" ", 1<<20),
		"fault 1 " + strings.Repeat("2 ", 1<<18), "element 1 1 7 " + strings.Repeat("\"", 1<<18), "element " + strings.Repeat("1 ", 1<<18) + "\"a\"",
	}
	for _, s := range append(long, wrongLines...) {
		if e, ok := event.Read(s); ok || e != nil {
			t.Errorf("Read(%.100q) = %+v, %v", s, e, ok)
		}
		checkRead(t, s)
	}
}

// P22.1: numbers about the ends, and beyond them.
func TestReadAboutTheEnds(t *testing.T) {
	for _, end := range []int64{api.Least, api.Most, 0} {
		for d := int64(-50); d <= 50; d++ {
			n := new(big.Int).Add(big.NewInt(end), big.NewInt(d))
			for _, s := range []string{n.String(), n.Add(n, new(big.Int).Lsh(big.NewInt(1), 64)).String()} {
				checkRead(t, "mark "+s)
				checkRead(t, "fault "+s+" 1")
				checkRead(t, "fault 1 "+s)
				checkRead(t, "element "+s+" 1 2 \"a\"")
				checkRead(t, "element 1 "+s+" 2 \"a\"")
				checkRead(t, "late 1 2 "+s+" \"a\"")
			}
		}
	}
}

// P22.1: a line with any byte that is left out, put in or changed is another one's line, or none.
func TestReadOfChangedLines(t *testing.T) {
	for _, s := range []string{`mark -12`, `fault 2 5`, `element 1 2 -30 "a b"`, `late 0 1 7 "\u{a}\xff\""`} {
		for i := range len(s) {
			checkRead(t, s[:i])
			checkRead(t, s[i:])
			checkRead(t, s[:i]+s[i+1:])
		}
		for b := range 256 {
			x := string([]byte{byte(b)})
			for i := range len(s) {
				checkRead(t, s[:i]+x+s[i:])
				checkRead(t, s[:i]+x+s[i+1:])
			}
			checkRead(t, s+x)
		}
	}
}

// P2, P22.1: what is read is new memory.
func TestReadIsNewMemory(t *testing.T) {
	b := []byte(`late 0 1 7 "abc"`)
	e, ok := event.Read(unsafe.String(&b[0], len(b)))
	clear(b)
	if want := (event.Element{Record: api.Record{Kind: 1, Time: 7, Text: "abc"}, Late: true}); e != event.Event(want) || !ok {
		t.Errorf("what was read has become %+v", e)
	}
}

// P22.1: all lines, a line feed behind each.
func TestText(t *testing.T) {
	if s := event.Text(); s != "" {
		t.Errorf("Text of nothing = %q", s)
	}
	if s := event.Text([]event.Event{}...); s != "" {
		t.Errorf("Text of nothing = %q", s)
	}
	l := some()
	for from := range l {
		want := ""
		for to := from; to < len(l); to++ {
			want += lineOf(l[to]) + "\n"
			if s := event.Text(l[from : to+1]...); s != want {
				t.Fatalf("Text = %q, want %q", s, want)
			}
		}
	}
}

// P22.1: the lines of a Text are those of the events, whatever the texts are.
func TestTextIsReadLineByLine(t *testing.T) {
	l := some()
	for i, text := range texts {
		l = append(l, event.Element{Part: i, Record: api.Record{Kind: 1, Text: text}})
	}
	lines := strings.Split(event.Text(l...), "\n")
	if len(lines) != len(l)+1 || lines[len(l)] != "" {
		t.Fatalf("%d lines of %d events", len(lines), len(l))
	}
	for i, e := range l {
		if x, ok := event.Read(lines[i]); !ok || x != e {
			t.Errorf("line %d is %+v, want %+v", i, x, e)
		}
	}
}

// P22.1: many events in one Text.
func TestLongText(t *testing.T) {
	const many = 1 << 18
	l := make([]event.Event, many)
	for i := range l {
		l[i] = event.Mark{At: 5}
	}
	if s := event.Text(l...); s != strings.Repeat("mark 5\n", many) {
		t.Errorf("Text of many has %d bytes", len(s))
	}
}

// other is an Event of another type.
type other struct{ line func() string }

func (o other) Line() string { return o.line() }

// P1: of what is no event nothing is promised, but that the calls end.
func TestNoEvents(t *testing.T) {
	none := (*event.Mark)(nil)
	l := []event.Event{nil, none, (*event.Element)(nil), &event.Fault{}, other{}, other{func() string { panic("no line") }}, event.Mark{At: 5}}
	for _, e := range l {
		event.Part(e)
		event.Text(e)
	}
	event.Text(l...)
	event.Last(l...)
	event.Of[event.Mark](l...)
	event.Of[event.Event](l...)
	event.Of[*event.Mark](l...)
}

// checkOf: those of one type, by their lines' names, as the events themselves are not asked for it.
func checkOf[T event.Event](t *testing.T, l []event.Event, names ...string) {
	t.Helper()
	var want []string
	for _, e := range l {
		name, _, _ := strings.Cut(e.Line(), " ")
		if slices.Contains(names, name) {
			want = append(want, e.Line())
		}
	}
	var got []string
	for _, x := range event.Of[T](l...) {
		got = append(got, x.Line())
	}
	if !slices.Equal(got, want) {
		t.Errorf("Of %v = %q, want %q", names, got, want)
	}
}

// P22.2: known ones of each type.
func TestKnownOf(t *testing.T) {
	a := event.Element{Part: 1, Record: api.Record{Kind: 1, Time: 7, Text: "a"}}
	b := event.Element{Part: 1, Record: api.Record{Kind: 1, Time: 7, Text: "a"}, Late: true}
	l := []event.Event{event.Mark{At: 9}, b, event.Mark{At: 3}, a, event.Fault{Part: 1, Err: 5}, b}
	if x := event.Of[event.Element](l...); !slices.Equal(x, []event.Element{b, a, b}) {
		t.Errorf("Of Element = %+v", x)
	}
	if x := event.Of[event.Mark](l...); !slices.Equal(x, []event.Mark{{At: 9}, {At: 3}}) {
		t.Errorf("Of Mark = %+v", x)
	}
	if x := event.Of[event.Fault](l...); !slices.Equal(x, []event.Fault{{Part: 1, Err: 5}}) {
		t.Errorf("Of Fault = %+v", x)
	}
	if event.Part(a) != 1 || event.Part(b) != 1 || len(event.Of[event.Mark](a, b)) != 0 || len(event.Of[event.Fault](l[:4]...)) != 0 || len(event.Of[event.Element]()) != 0 {
		t.Error("Of those that there are none of")
	}
}

// P22.2: those of each type in all stretches.
func TestOf(t *testing.T) {
	l := some()
	for from := range l {
		for to := from; to <= len(l); to++ {
			checkOf[event.Element](t, l[from:to], "element", "late")
			checkOf[event.Mark](t, l[from:to], "mark")
			checkOf[event.Fault](t, l[from:to], "fault")
		}
	}
}

// P22.2: the last Mark, and not the greatest.
func TestLast(t *testing.T) {
	x, f := event.Element{Record: api.Record{Time: 99}}, event.Fault{Err: 98}
	mark := func(at int) event.Event { return event.Mark{At: at} }
	for i, c := range []struct {
		want int
		l    []event.Event
	}{
		{api.Never, nil},
		{api.Never, []event.Event{}},
		{api.Never, []event.Event{x, f, x}},
		{5, []event.Event{mark(5)}},
		{0, []event.Event{x, mark(0), x, f}},
		{6, []event.Event{mark(5), mark(6), x, f, x}},
		{5, []event.Event{mark(6), x, mark(5)}},
		{-5, []event.Event{mark(6), x, mark(-5), f}},
		{api.Most, []event.Event{mark(6), mark(api.Most)}},
		{api.Never, []event.Event{mark(6), mark(api.Never)}},
	} {
		if at := event.Last(c.l...); at != c.want {
			t.Errorf("Last %d = %d, want %d", i, at, c.want)
		}
	}
}

// P22.2: the Part of each number; of a Mark -1, wherever it is.
func TestPart(t *testing.T) {
	for _, n := range edges {
		if p := event.Part(event.Element{Part: n, Record: api.Record{Kind: 7, Time: 8}}); p != n {
			t.Errorf("Part of an Element = %d, want %d", p, n)
		}
		if p := event.Part(event.Element{Part: n, Late: true}); p != n {
			t.Errorf("Part of a late Element = %d, want %d", p, n)
		}
		if p := event.Part(event.Fault{Part: n, Err: 9}); p != n {
			t.Errorf("Part of a Fault = %d, want %d", p, n)
		}
		if p := event.Part(event.Mark{At: n}); p != -1 {
			t.Errorf("Part of a Mark = %d", p)
		}
	}
}

// P2: events that are handed in, and those that lie in the spare room behind them, stay as they are, and those that are answered are new memory.
func TestMemory(t *testing.T) {
	l := some()
	was := slices.Clone(l)
	part := l[:5]
	event.Text(part...)
	event.Last(part...)
	event.Of[event.Fault](part...)
	a, b := event.Of[event.Mark](l...), event.Of[event.Mark](l...)
	all := event.Of[event.Event](l...)
	for i := range all {
		all[i] = event.Mark{At: 77}
	}
	_ = append(b[:1], event.Mark{At: 78})
	if !slices.Equal(l, was) {
		t.Errorf("the events have become %+v", l)
	}
	if !slices.Equal(a, event.Of[event.Mark](was...)) {
		t.Errorf("what was answered has become %+v", a)
	}
}

// P22.1: events are held against one another by ==, field by field, and of two types they are never the same.
func TestEventsAreComparable(t *testing.T) {
	l := []event.Event{
		event.Element{}, event.Element{Part: 1}, event.Element{Record: api.Record{Kind: 1}}, event.Element{Record: api.Record{Time: 1}}, event.Element{Record: api.Record{Text: "a"}}, event.Element{Late: true},
		event.Mark{}, event.Mark{At: 1},
		event.Fault{}, event.Fault{Part: 1}, event.Fault{Err: 1},
	}
	for i, a := range l {
		for j, b := range l {
			if (a == b) != (i == j) || (a.Line() == b.Line()) != (i == j) {
				t.Errorf("%+v and %+v", a, b)
			}
		}
	}
}

// P1, P22.1: any text.
func FuzzRead(f *testing.F) {
	for _, e := range some() {
		f.Add(e.Line())
	}
	for _, s := range wrongLines {
		f.Add(s)
	}
	f.Fuzz(func(t *testing.T, s string) {
		checkRead(t, s)
		for _, head := range []string{"mark ", "fault ", "fault 1 ", "element ", "late 1 2 3 "} {
			checkRead(t, head+s)
		}
	})
}

// P1, P22.1: any events.
func FuzzLine(f *testing.F) {
	f.Add(0, 1, 7, "a", true)
	f.Add(-1, api.Least, api.Most, "\"\n\xff", false)
	f.Fuzz(func(t *testing.T, a, b, c int, text string, late bool) {
		checkLine(t, event.Element{Part: a, Record: api.Record{Kind: b, Time: c, Text: text}, Late: late})
		checkLine(t, event.Mark{At: a})
		checkLine(t, event.Fault{Part: a, Err: api.Errno(b)})
	})
}
