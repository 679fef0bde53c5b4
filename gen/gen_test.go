package gen_test

import (
	"encoding/binary"
	"testing"

	"tidewaiter/api"
	"tidewaiter/bounded"
	"tidewaiter/gen"
	"tidewaiter/percent"
	"tidewaiter/punct"
)

// P13.1: it is a constant.
var _ [4096]int = [gen.MaxWindow]int{}

// The three ways are such a way.
var _ = []gen.Gen{&bounded.Gen{}, &punct.Gen{}, &percent.Gen{}}

// numbers: of all fields of rules, below, at, between and above the ends of each.
var numbers = []int{
	api.Least, api.Least + 1, -1 << 32, -4096, -101, -100, -2, -1, 0, 1, 2, 3, 50, 99, 100, 101, 102, 255, 256,
	4095, 4096, 4097, 0xD7FF, 0xD800, 0xDFFF, 0xE000, 0xFFFF, 0x10000, 0x10FFFE, 0x10FFFF, 0x110000, 0x110001,
	1<<31 - 1, 1 << 31, 1<<32 - 1, 1 << 32, 1<<32 + 1, api.Most - 1, api.Most,
}

// rows: of records, the latest ones ahead and behind, with signs and without, of all Kinds.
var rows = [][]api.Record{
	nil,
	{{Kind: api.Data, Time: 10}},
	{{Kind: api.Data, Time: 10}, {Kind: api.Data, Time: 8}, {Kind: api.Data, Time: 11}},
	{{Kind: api.Data, Time: 12}, {Kind: api.Data, Time: 10, Text: "!"}, {Kind: api.Data, Time: 20}, {Kind: api.Punct, Time: 14}},
	{{Kind: api.Data, Time: 5, Text: "\x00"}, {Kind: api.Data, Time: -4, Text: "\u0001"}, {Kind: api.Data, Time: 3, Text: "2\u0002d"}},
	{{Kind: api.Data, Time: 7, Text: "\U0010FFFF"}, {Kind: api.Data, Time: 9, Text: "\U0010FFFE"}, {Kind: api.Data, Time: 8, Text: "\xFF"}},
	{{Kind: 3, Time: api.Most}, {Kind: -1, Time: api.Least, Text: "d"}, {Kind: api.Punct, Time: 0}, {Kind: 0, Time: 1, Text: "\u0100"}},
	{{Kind: api.Punct, Time: api.Least}, {Kind: api.Data, Time: api.Least + 5}, {Kind: api.Data, Time: api.Least + 1}, {Kind: api.Punct, Time: api.Most}},
}

// errorOf: what Check should be, by a list of what can be.
func errorOf(r api.Rule) api.Errno {
	in := func(n, least, most int) bool { return n >= least && n <= most }
	switch {
	case r.Kind != 0 && r.Kind != 1 && r.Kind != 2:
		return api.ErrKind
	case r.Kind == 0 && !in(r.Bound, 0, api.Most),
		r.Kind == 1 && !in(r.Sign, 0, 1114111),
		r.Kind == 2 && !in(r.Percent, 0, 100),
		r.Kind == 2 && !in(r.Window, 1, 4096):
		return api.ErrRange
	}
	return api.OK
}

// checkRule: Check and Of of a rule; what Of answers, beside an error nothing.
func checkRule(t *testing.T, r api.Rule) (gen.Gen, bool) {
	t.Helper()
	want := errorOf(r)
	// Twice, as nothing is kept.
	if e := gen.Check(r); e != want || gen.Check(r) != want {
		t.Fatalf("Check(%+v) = %d, want %d", r, e, want)
	}
	g, e := gen.Of(r)
	if e != want {
		t.Fatalf("Of(%+v): %d, want %d", r, e, want)
	}
	if (g == nil) != (want != api.OK) {
		t.Fatalf("Of(%+v) = %v beside %d", r, g, e)
	}
	return g, e == api.OK
}

// own: the layer's own way of a rule that can be, and its slack at any time.
func own(r api.Rule) (gen.Gen, func() (int, bool)) {
	switch r.Kind {
	case api.Bounded:
		return bounded.New(r.Bound), func() (int, bool) { return r.Bound, true }
	case api.Marked:
		return punct.New(r.Sign), func() (int, bool) { return 0, false }
	}
	g := percent.New(r.Percent, r.Window)
	return g, func() (int, bool) { return g.Lag(), true }
}

func checkSlack(t *testing.T, g gen.Gen, slack int, is bool) {
	t.Helper()
	// Twice, as asking changes nothing.
	for range 2 {
		if n, ok := gen.Slack(g); n != slack || ok != is {
			t.Fatalf("Slack = %d, %v, want %d, %v", n, ok, slack, is)
		}
	}
}

// checkSame: a way of Of is as the layer's own one, at the beginning and behind each record.
func checkSame(t *testing.T, g gen.Gen, r api.Rule, l []api.Record) {
	t.Helper()
	same, slack := own(r)
	for i := range len(l) + 1 {
		if i > 0 {
			g.Seen(l[i-1])
			same.Seen(l[i-1])
		}
		if got, want := g.Now(), same.Now(); got != want {
			t.Fatalf("of %+v behind %d of %v Now = %d, want %d", r, i, l, got, want)
		}
		n, is := slack()
		checkSlack(t, g, n, is)
	}
}

// checkRows: a rule, and all rows of records by it.
func checkRows(t *testing.T, r api.Rule) {
	t.Helper()
	for _, l := range rows {
		if g, ok := checkRule(t, r); ok {
			checkSame(t, g, r, l)
		}
	}
}

// known: of a rule that can be.
func known(t *testing.T, r api.Rule) gen.Gen {
	t.Helper()
	g, ok := checkRule(t, r)
	if !ok {
		t.Fatalf("Of(%+v) is none", r)
	}
	return g
}

// P13.2: the document's example.
func TestTheDocumentsExample(t *testing.T) {
	checkSlack(t, known(t, api.Rule{Kind: api.Bounded, Bound: 3}), 3, true)
}

// P13.1, P13.2: known rules and records: what Now and Slack are behind each.
func TestKnownRecords(t *testing.T) {
	l := []api.Record{{Kind: api.Data, Time: 10}, {Kind: api.Data, Time: 8, Text: "a!"}, {Kind: api.Data, Time: 11}, {Kind: api.Punct, Time: 9}}
	for _, x := range []struct {
		r      api.Rule
		begins int
		is     bool
		steps  [4][2]int
	}{
		{api.Rule{Kind: api.Bounded}, 0, true, [4][2]int{{9, 0}, {9, 0}, {10, 0}, {10, 0}}},
		{api.Rule{Kind: api.Bounded, Bound: 3}, 3, true, [4][2]int{{6, 3}, {6, 3}, {7, 3}, {7, 3}}},
		{api.Rule{Kind: api.Bounded, Bound: api.Most}, api.Most, true, [4][2]int{
			{api.Least + 10, api.Most}, {api.Least + 10, api.Most}, {api.Least + 11, api.Most}, {api.Least + 11, api.Most}}},
		{api.Rule{Kind: api.Marked, Sign: '!'}, 0, false, [4][2]int{{api.Never}, {8}, {8}, {9}}},
		{api.Rule{Kind: api.Marked, Sign: 'b'}, 0, false, [4][2]int{{api.Never}, {api.Never}, {api.Never}, {9}}},
		{api.Rule{Kind: api.Percent, Percent: 100, Window: 2}, 0, true, [4][2]int{{9, 0}, {9, 2}, {9, 2}, {9, 2}}},
		{api.Rule{Kind: api.Percent, Percent: 0, Window: 3}, 0, true, [4][2]int{{9, 0}, {9, 0}, {10, 0}, {10, 0}}},
		{api.Rule{Kind: api.Percent, Percent: 100, Window: 1}, 0, true, [4][2]int{{9, 0}, {9, 2}, {10, 0}, {10, 2}}},
	} {
		g := known(t, x.r)
		if got := g.Now(); got != api.Never {
			t.Errorf("of %+v Now = %d at the beginning", x.r, got)
		}
		checkSlack(t, g, x.begins, x.is)
		for i, r := range l {
			g.Seen(r)
			if got := g.Now(); got != x.steps[i][0] {
				t.Errorf("of %+v behind %d Now = %d, want %d", x.r, i, got, x.steps[i][0])
			}
			checkSlack(t, g, x.steps[i][1], x.is)
		}
	}
}

// P13.1: which layer's way it is, and of what.
func TestWhichWay(t *testing.T) {
	for _, n := range numbers {
		r := api.Rule{Kind: api.Bounded, Bound: n, Percent: -1, Window: -1, Sign: -1}
		if g, ok := checkRule(t, r); ok {
			if b, ok := g.(*bounded.Gen); !ok || b.Bound() != n {
				t.Errorf("Of(%+v) is another one", r)
			}
		}
		r = api.Rule{Kind: api.Marked, Bound: -1, Percent: -1, Window: -1, Sign: n}
		if g, ok := checkRule(t, r); ok {
			if p, ok := g.(*punct.Gen); !ok || p.Sign() != n {
				t.Errorf("Of(%+v) is another one", r)
			}
		}
		r = api.Rule{Kind: api.Percent, Bound: -1, Percent: n, Window: 1, Sign: -1}
		if g, ok := checkRule(t, r); ok {
			if _, ok := g.(*percent.Gen); !ok {
				t.Errorf("Of(%+v) is another one", r)
			}
		}
	}
}

// P13.1: the ends of what each Kind goes by.
func TestTheEnds(t *testing.T) {
	for _, x := range []struct {
		r api.Rule
		e api.Errno
	}{
		{api.Rule{}, api.OK},
		{api.Rule{Kind: -1}, api.ErrKind},
		{api.Rule{Kind: 3}, api.ErrKind},
		{api.Rule{Kind: api.Least}, api.ErrKind},
		{api.Rule{Kind: api.Most}, api.ErrKind},
		{api.Rule{Kind: 1 << 32}, api.ErrKind},
		{api.Rule{Kind: api.Bounded, Bound: -1}, api.ErrRange},
		{api.Rule{Kind: api.Bounded, Bound: api.Least}, api.ErrRange},
		{api.Rule{Kind: api.Bounded, Bound: api.Most}, api.OK},
		{api.Rule{Kind: api.Marked, Sign: -1}, api.ErrRange},
		{api.Rule{Kind: api.Marked, Sign: 0}, api.OK},
		{api.Rule{Kind: api.Marked, Sign: 0xD800}, api.OK},
		{api.Rule{Kind: api.Marked, Sign: 0xDFFF}, api.OK},
		{api.Rule{Kind: api.Marked, Sign: 0x10FFFF}, api.OK},
		{api.Rule{Kind: api.Marked, Sign: 0x110000}, api.ErrRange},
		{api.Rule{Kind: api.Percent, Percent: 0, Window: 1}, api.OK},
		{api.Rule{Kind: api.Percent, Percent: 0, Window: 0}, api.ErrRange},
		{api.Rule{Kind: api.Percent, Percent: -1, Window: 1}, api.ErrRange},
		{api.Rule{Kind: api.Percent, Percent: 100, Window: 4096}, api.OK},
		{api.Rule{Kind: api.Percent, Percent: 101, Window: 4096}, api.ErrRange},
		{api.Rule{Kind: api.Percent, Percent: 100, Window: 4097}, api.ErrRange},
		{api.Rule{Kind: api.Percent, Percent: 100, Window: -1}, api.ErrRange},
	} {
		g, e := gen.Of(x.r)
		if got := gen.Check(x.r); got != x.e || e != x.e || (g == nil) != (x.e != api.OK) {
			t.Errorf("Check(%+v) = %d, Of: %v, %d, want %d", x.r, got, g, e, x.e)
		}
	}
}

// P13.1: another Kind is told ahead of all that is out of range.
func TestTheOrderOfErrors(t *testing.T) {
	for _, kind := range []int{api.Least, -2, -1, 3, 4, 1 << 32, api.Most} {
		for _, n := range numbers {
			r := api.Rule{Kind: kind, Bound: n, Percent: n, Window: n, Sign: n}
			if e := gen.Check(r); e != api.ErrKind {
				t.Errorf("Check(%+v) = %d", r, e)
			}
			checkRule(t, r)
		}
	}
}

// P13.1: of each Kind, each two of the numbers for a Percent and a Window, and each for the others.
func TestCheckAndOf(t *testing.T) {
	for kind := range 3 {
		for _, a := range numbers {
			for _, b := range numbers {
				checkRule(t, api.Rule{Kind: kind, Bound: a, Percent: a, Window: b, Sign: a})
				checkRule(t, api.Rule{Kind: kind, Bound: b, Percent: a, Window: b, Sign: b})
			}
		}
	}
}

// P13.1: every Percent and every Window.
func TestEveryPercentAndWindow(t *testing.T) {
	for p := -3; p <= 103; p++ {
		checkRule(t, api.Rule{Kind: api.Percent, Percent: p, Window: 9})
	}
	for w := -3; w <= 4100; w++ {
		checkRule(t, api.Rule{Kind: api.Percent, Percent: 50, Window: w})
	}
}

// P13.1: what a rule doesn't go by is of no matter, neither to what is answered nor to what it does.
func TestOtherFieldsAreOfNoMatter(t *testing.T) {
	for _, n := range numbers {
		for _, r := range []api.Rule{
			{Kind: api.Bounded, Bound: 2, Percent: n, Window: n, Sign: n},
			{Kind: api.Marked, Sign: '!', Bound: n, Percent: n, Window: n},
			{Kind: api.Percent, Percent: 75, Window: 3, Bound: n, Sign: n},
		} {
			known(t, r)
			checkRows(t, r)
		}
	}
}

// P13.1, P13.2: each way does what the layer's own one does.
func TestSeen(t *testing.T) {
	for _, n := range numbers {
		checkRows(t, api.Rule{Kind: api.Bounded, Bound: n})
		checkRows(t, api.Rule{Kind: api.Marked, Sign: n})
		checkRows(t, api.Rule{Kind: api.Percent, Percent: n, Window: 2})
		checkRows(t, api.Rule{Kind: api.Percent, Percent: 100, Window: n})
	}
}

// P13.1: the greatest window: a lag counts until MaxWindow have come behind it.
func TestTheGreatestWindow(t *testing.T) {
	g := known(t, api.Rule{Kind: api.Percent, Percent: 100, Window: gen.MaxWindow})
	g.Seen(api.Record{Kind: api.Data, Time: 100})
	g.Seen(api.Record{Kind: api.Data, Time: 93})
	for range gen.MaxWindow - 1 {
		g.Seen(api.Record{Kind: api.Data, Time: 100})
	}
	checkSlack(t, g, 7, true)
	g.Seen(api.Record{Kind: api.Data, Time: 100})
	checkSlack(t, g, 0, true)
}

// Rules are held against one another by ==.
func TestRulesAreComparable(t *testing.T) {
	r := api.Rule{Kind: api.Percent, Bound: 1, Percent: 2, Window: 3, Sign: 4}
	same := r
	if r != same || r == (api.Rule{Kind: api.Percent, Bound: 1, Percent: 2, Window: 3, Sign: 5}) {
		t.Error("rules are not held against one another field by field")
	}
}

// P2: ways of one rule have nothing in common.
func TestGensAreApart(t *testing.T) {
	for _, r := range []api.Rule{{Kind: api.Bounded, Bound: 1}, {Kind: api.Marked, Sign: '!'}, {Kind: api.Percent, Percent: 100, Window: 3}} {
		a, b := known(t, r), known(t, r)
		_, slack := own(r)
		n, is := slack()
		for _, x := range rows[3] {
			a.Seen(x)
		}
		if got := b.Now(); got != api.Never {
			t.Errorf("of %+v: Now = %d of one that nothing was told", r, got)
		}
		checkSlack(t, b, n, is)
		checkSame(t, b, r, rows[3])
		if a.Now() != b.Now() {
			t.Errorf("of %+v: Now = %d and %d behind the same", r, a.Now(), b.Now())
		}
	}
}

// other: a way that Of doesn't answer.
type other struct{}

func (other) Seen(api.Record) {}
func (other) Now() int        { return 5 }

// P1: of other Gens, and of none, Slack ends and doesn't panic (what it answers isn't promised).
func TestSlackOfOthers(t *testing.T) {
	gen.Slack(nil)
	gen.Slack(other{})
	gen.Slack(&other{})
}

// P1, P13.1, P13.2: any rule, and any records, of a Kind, 8 bytes of Time, and a byte of text each.
func FuzzOf(f *testing.F) {
	f.Add(0, 3, 0, 0, 0, []byte("\x01any of these\x02and those"))
	f.Add(1, 0, 0, 0, 33, []byte("\x01\x00\x00\x00\x00\x00\x00\x00\x05!\x02\x7F\xFF\xFF\xFF\xFF\xFF\xFF\xFF!"))
	f.Add(2, 0, 100, 4096, 0, []byte("\x01\x00\x00\x00\x00\x00\x00\x00\x05!\x01\x80\xFF\xFF\xFF\xFF\xFF\xFF\xFF!"))
	f.Add(3, -1, -1, 0, -1, []byte("of no rule"))
	f.Fuzz(func(t *testing.T, kind, bound, p, window, sign int, b []byte) {
		r := api.Rule{Kind: kind, Bound: bound, Percent: p, Window: window, Sign: sign}
		g, ok := checkRule(t, r)
		if !ok {
			return
		}
		var l []api.Record
		for ; len(b) >= 10; b = b[10:] {
			l = append(l, api.Record{Kind: int(int8(b[0])), Time: int(binary.BigEndian.Uint64(b[1:])), Text: string(b[9:10])})
		}
		checkSame(t, g, r, l)
	})
}
