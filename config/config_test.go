package config_test

import (
	"fmt"
	"math/big"
	"regexp"
	"slices"
	"strings"
	"testing"

	"tidewaiter/api"
	"tidewaiter/config"
	"tidewaiter/gen"
)

// P19.1: it is a constant.
var _ [4096]int = [config.MaxParts]int{}

// edges: numbers at both ends, about 0, and about those at which there is one digit more, or a rule can't be any more.
var edges = []int{
	api.Least, api.Least + 1, -1<<53 - 1, -1 << 32, -1 << 31, -101, -100, -99, -11, -10, -9, -2, -1, 0, 1, 2, 3, 9, 10, 11, 99, 100, 101,
	4095, 4096, 4097, 0x10FFFF, 0x110000, 1<<31 - 1, 1 << 31, 1 << 32, 1<<53 + 1, api.Most - 1, api.Most,
}

// wrongWords: what are no numbers, or aren't written like that.
var wrongWords = []string{
	"", " ", "-", "+", "--1", "-0", "+0", "+1", "00", "01", "-01", "0001", "1 ", " 1", "1\n", "\n1", "1\r", "\t1", "1-", "-1-", "1-1", "-+1",
	"9223372036854775808", "-9223372036854775809", "18446744073709551616", "99999999999999999999", "-99999999999999999999",
	strings.Repeat("9", 1000), strings.Repeat("0", 1000), "1" + strings.Repeat("0", 1000),
	"x", "0x1", "0b1", "0o7", "1_0", "1e1", "1.0", "1.", ".5", "inf", "NaN", "1a", "a1", "1\x00", "\x001", "\xff",
	"\u0661", "\uff11", "\u22121", "\u00b2", "1\u00a0",
}

// rules: of each Kind some, that can be told.
var rules = []api.Rule{
	{},
	{Kind: api.Bounded, Bound: 3},
	{Kind: api.Bounded, Bound: -3},
	{Kind: api.Marked},
	{Kind: api.Marked, Sign: 33},
	{Kind: api.Marked, Sign: api.Most},
	{Kind: api.Percent},
	{Kind: api.Percent, Percent: 90, Window: 100},
	{Kind: api.Percent, Percent: api.Least, Window: -1},
}

// otherKinds: those that rules don't have.
var otherKinds = []int{api.Least, -1 << 32, -3, -2, -1, 3, 4, 255, 256, 257, 1 << 32, 1<<32 + 1, api.Most}

// good: one that there can be, of all Kinds.
func good() api.Config {
	return api.Config{
		Rules:   []api.Rule{{Bound: 3}, {Kind: api.Marked, Sign: 33}, {Kind: api.Percent, Percent: 90, Window: 100}},
		Timeout: 5,
		Drift:   10,
	}
}

// goodLines: those of good.
func goodLines() []string { return []string{"source 5 10", "bounded 3", "marked 33", "percent 90 100"} }

// ruleTold: what Rule should answer.
func ruleTold(r api.Rule) string {
	switch r.Kind {
	case 0:
		return fmt.Sprintf("bounded %d\n", r.Bound)
	case 1:
		return fmt.Sprintf("marked %d\n", r.Sign)
	case 2:
		return fmt.Sprintf("percent %d %d\n", r.Percent, r.Window)
	}
	return ""
}

// told: what Print should answer.
func told(c api.Config) string {
	s := fmt.Sprintf("source %d %d\n", c.Timeout, c.Drift)
	for _, r := range c.Rules {
		s += ruleTold(r)
	}
	return s
}

var aNumber = regexp.MustCompile(`\A(0|-?[1-9][0-9]*)\z`)

// number: what a word is, by whole numbers of any size.
func number(w string) (int, bool) {
	if !aNumber.MatchString(w) {
		return 0, false
	}
	n, _ := new(big.Int).SetString(w, 10)
	return int(n.Int64()), n.IsInt64()
}

var (
	aSource  = regexp.MustCompile(`\Asource ([-0-9]+) ([-0-9]+)\z`)
	aBounded = regexp.MustCompile(`\Abounded ([-0-9]+)\z`)
	aMarked  = regexp.MustCompile(`\Amarked ([-0-9]+)\z`)
	aPercent = regexp.MustCompile(`\Apercent ([-0-9]+) ([-0-9]+)\z`)
)

// found: the numbers of a line of such a shape.
func found(shape *regexp.Regexp, line string) ([]int, bool) {
	m := shape.FindStringSubmatch(line)
	if m == nil {
		return nil, false
	}
	var l []int
	for _, w := range m[1:] {
		n, ok := number(w)
		if !ok {
			return nil, false
		}
		l = append(l, n)
	}
	return l, true
}

// ruleOf: the rule of a line, by its shape.
func ruleOf(line string) (api.Rule, bool) {
	if l, ok := found(aBounded, line); ok {
		return api.Rule{Kind: 0, Bound: l[0]}, true
	}
	if l, ok := found(aMarked, line); ok {
		return api.Rule{Kind: 1, Sign: l[0]}, true
	}
	if l, ok := found(aPercent, line); ok {
		return api.Rule{Kind: 2, Percent: l[0], Window: l[1]}, true
	}
	return api.Rule{}, false
}

// parsed: what Parse should answer.
func parsed(lines []string) (api.Config, int) {
	if len(lines) == 0 {
		return api.Config{}, 1
	}
	l, ok := found(aSource, lines[0])
	if !ok {
		return api.Config{}, 1
	}
	c := api.Config{Timeout: l[0], Drift: l[1]}
	for i := 1; i < len(lines); i++ {
		r, ok := ruleOf(lines[i])
		if !ok {
			return api.Config{}, i + 1
		}
		c.Rules = append(c.Rules, r)
	}
	return c, 0
}

func same(a, b api.Config) bool {
	return a.Timeout == b.Timeout && a.Drift == b.Drift && slices.Equal(a.Rules, b.Rules)
}

// short: as much of lines as a failure should tell.
func short(lines []string) string {
	s := fmt.Sprintf("%q", lines)
	return s[:min(len(s), 300)]
}

func checkCheck(t *testing.T, c api.Config, want api.Errno) {
	t.Helper()
	was := slices.Clone(c.Rules)
	// Twice, as nothing is kept.
	for range 2 {
		if e := config.Check(c); e != want {
			t.Fatalf("Check of %d and %d and %d rules = %d, want %d", c.Timeout, c.Drift, len(c.Rules), e, want)
		}
	}
	if !slices.Equal(c.Rules, was) {
		t.Fatal("Check has changed the Rules")
	}
}

// checkParse: what lines are, by their shapes; and that what they are is told by them.
func checkParse(t *testing.T, lines ...string) {
	t.Helper()
	want, bad := parsed(lines)
	was := slices.Clone(lines)
	for range 2 {
		c, got := config.Parse(lines...)
		if got != bad || !same(c, want) {
			t.Fatalf("Parse of %s = %+v, %d, want %+v, %d", short(lines), c, got, want, bad)
		}
	}
	if !slices.Equal(lines, was) {
		t.Fatalf("Parse has changed the lines %s", short(was))
	}
	if bad == 0 && config.Print(want) != strings.Join(lines, "\n")+"\n" {
		t.Fatalf("the Print of what Parse has of %s is %q", short(lines), config.Print(want))
	}
}

// checkBad: lines are none from this one on.
func checkBad(t *testing.T, bad int, lines ...string) {
	t.Helper()
	if c, got := config.Parse(lines...); got != bad || !same(c, api.Config{}) {
		t.Fatalf("Parse of %s = %+v, %d, want %d", short(lines), c, got, bad)
	}
	checkParse(t, lines...)
}

// checkTold: a Config that can be told, there and back.
func checkTold(t *testing.T, c api.Config) {
	t.Helper()
	s := config.Print(c)
	if want := told(c); s != want || config.Print(c) != want {
		t.Fatalf("Print of %+v = %q, want %q", c, s, want)
	}
	lines := strings.Split(s, "\n")
	lines = lines[:len(lines)-1]
	if got, bad := config.Parse(lines...); bad != 0 || !same(got, c) {
		t.Fatalf("Parse of the Print of %+v = %+v, %d", c, got, bad)
	}
	checkParse(t, lines...)
}

// P19.2, P19.3: the document's example: one partition.
func TestTheDocumentsExample(t *testing.T) {
	c, bad := config.Parse("source 5 10", "bounded 3")
	if bad != 0 || c.Timeout != 5 || c.Drift != 10 || len(c.Rules) != 1 || c.Rules[0] != (api.Rule{Kind: api.Bounded, Bound: 3}) {
		t.Errorf("Parse = %+v, %d", c, bad)
	}
	if s := config.Print(c); s != "source 5 10\nbounded 3\n" {
		t.Errorf("Print = %q", s)
	}
	checkCheck(t, c, api.OK)
}

// P19.1: how many Rules there are.
func TestCheckOfCounts(t *testing.T) {
	for _, x := range []struct {
		many int
		e    api.Errno
	}{{0, api.ErrCount}, {1, api.OK}, {2, api.OK}, {4095, api.OK}, {4096, api.OK}, {4097, api.ErrCount}, {4098, api.ErrCount}, {100000, api.ErrCount}} {
		checkCheck(t, api.Config{Rules: make([]api.Rule, x.many), Timeout: 1}, x.e)
	}
	checkCheck(t, api.Config{Timeout: 1}, api.ErrCount)
	checkCheck(t, api.Config{}, api.ErrCount)
	// Spare room is none of them.
	checkCheck(t, api.Config{Rules: make([]api.Rule, 1, 5000), Timeout: 1}, api.OK)
	checkCheck(t, api.Config{Rules: make([]api.Rule, 0, 1), Timeout: 1}, api.ErrCount)
}

// P19.1: each Timeout and each Drift.
func TestCheckOfRanges(t *testing.T) {
	for _, timeout := range edges {
		for _, drift := range edges {
			c := good()
			c.Timeout, c.Drift = timeout, drift
			want := api.OK
			if timeout <= 0 || drift <= -1 {
				want = api.ErrRange
			}
			checkCheck(t, c, want)
		}
	}
}

// P19.1: the first Rule that has an error, wherever it is.
func TestCheckOfRules(t *testing.T) {
	wrong := []api.Rule{{Bound: -1}, {Kind: 3}, {Kind: -1, Bound: -1}, {Kind: api.Marked, Sign: 0x110000}, {Kind: api.Percent, Percent: 50}, {Kind: api.Most}}
	for _, r := range wrong {
		for _, many := range []int{1, 2, 3, 10, 4096} {
			for _, at := range []int{0, 1, many / 2, many - 1} {
				c := api.Config{Rules: make([]api.Rule, many), Timeout: 1}
				if at >= many {
					continue
				}
				c.Rules[at] = r
				checkCheck(t, c, gen.Check(r))
				for _, other := range wrong {
					if at+1 < many {
						c.Rules[many-1] = other
						checkCheck(t, c, gen.Check(r))
					}
				}
			}
		}
	}
	checkCheck(t, api.Config{Rules: wrong[:1], Timeout: 1}, api.ErrRange)
	checkCheck(t, api.Config{Rules: wrong[1:], Timeout: 1}, api.ErrKind)
	checkCheck(t, good(), api.OK)
}

// P19.1: what a rule doesn't go by is of no matter here, as in layer 13.
func TestCheckOfOtherFields(t *testing.T) {
	for _, n := range edges {
		checkCheck(t, api.Config{Timeout: 1, Rules: []api.Rule{
			{Kind: api.Bounded, Percent: n, Window: n, Sign: n},
			{Kind: api.Marked, Bound: n, Percent: n, Window: n},
			{Kind: api.Percent, Window: 1, Bound: n, Sign: n},
		}}, api.OK)
	}
}

// P19.1: how many there are is asked ahead of the ranges, and these ahead of the Rules.
func TestTheOrderOfErrors(t *testing.T) {
	kind, window := api.Rule{Kind: 3}, api.Rule{Kind: api.Percent}
	for _, x := range []struct {
		c api.Config
		e api.Errno
	}{
		{api.Config{Timeout: 0, Drift: -1}, api.ErrCount},
		{api.Config{Timeout: -1, Drift: 5}, api.ErrCount},
		{api.Config{Rules: slices.Repeat([]api.Rule{kind}, 4097), Timeout: 1}, api.ErrCount},
		{api.Config{Rules: slices.Repeat([]api.Rule{window}, 4097), Timeout: 0, Drift: -1}, api.ErrCount},
		{api.Config{Rules: []api.Rule{kind}, Timeout: 0}, api.ErrRange},
		{api.Config{Rules: []api.Rule{kind}, Timeout: 1, Drift: -1}, api.ErrRange},
		{api.Config{Rules: []api.Rule{kind, window}, Timeout: 1}, api.ErrKind},
		{api.Config{Rules: []api.Rule{window, kind}, Timeout: 1}, api.ErrRange},
		{api.Config{Rules: []api.Rule{{}, kind, window}, Timeout: 1}, api.ErrKind},
		{api.Config{Rules: []api.Rule{{}, window, kind}, Timeout: 1}, api.ErrRange},
	} {
		checkCheck(t, x.c, x.e)
	}
}

// P19.2: known rules.
func TestKnownRules(t *testing.T) {
	for _, x := range []struct {
		r    api.Rule
		want string
	}{
		{api.Rule{}, "bounded 0\n"},
		{api.Rule{Kind: api.Bounded, Bound: 3}, "bounded 3\n"},
		{api.Rule{Kind: api.Bounded, Bound: api.Least}, "bounded -9223372036854775808\n"},
		{api.Rule{Kind: api.Marked, Sign: 33}, "marked 33\n"},
		{api.Rule{Kind: api.Marked, Sign: -7}, "marked -7\n"},
		{api.Rule{Kind: api.Percent, Percent: 90, Window: 100}, "percent 90 100\n"},
		{api.Rule{Kind: api.Percent, Percent: api.Most, Window: -1}, "percent 9223372036854775807 -1\n"},
		{api.Rule{Kind: 3}, ""},
		{api.Rule{Kind: -1, Bound: 5, Percent: 5, Window: 5, Sign: 5}, ""},
	} {
		if got := config.Rule(x.r); got != x.want {
			t.Errorf("Rule(%+v) = %q, want %q", x.r, got, x.want)
		}
	}
}

// P19.2: of each Kind, whatever it goes by, and whatever it doesn't; of others none.
func TestRule(t *testing.T) {
	for _, kind := range append([]int{0, 1, 2}, otherKinds...) {
		for i, n := range edges {
			m := edges[len(edges)-1-i]
			for _, r := range []api.Rule{
				{Kind: kind, Bound: n, Percent: n, Window: n, Sign: n},
				{Kind: kind, Bound: n, Percent: m, Window: n, Sign: m},
				{Kind: kind, Bound: n, Percent: 1, Window: 2, Sign: 3},
				{Kind: kind, Bound: 1, Percent: n, Window: m, Sign: 2},
				{Kind: kind, Bound: 1, Percent: 2, Window: n, Sign: 3},
				{Kind: kind, Bound: 1, Percent: 2, Window: 3, Sign: n},
			} {
				if got := config.Rule(r); got != ruleTold(r) {
					t.Fatalf("Rule(%+v) = %q, want %q", r, got, ruleTold(r))
				}
			}
		}
	}
}

// P19.2: all of it, of each number, in the order of the Rules; those of other Kinds have no line.
func TestPrint(t *testing.T) {
	if s := config.Print(good()); s != "source 5 10\nbounded 3\nmarked 33\npercent 90 100\n" {
		t.Errorf("Print = %q", s)
	}
	if s := config.Print(api.Config{}); s != "source 0 0\n" {
		t.Errorf("Print of the zero one = %q", s)
	}
	c := api.Config{Rules: []api.Rule{{Kind: 3}, {Kind: api.Marked, Sign: 1, Bound: 7}, {Kind: -1}, {Kind: api.Most}, {Bound: 2, Window: 3}}, Timeout: -1, Drift: -2}
	if s := config.Print(c); s != "source -1 -2\nmarked 1\nbounded 2\n" {
		t.Errorf("Print of other Kinds = %q", s)
	}
	for _, timeout := range edges {
		for _, drift := range edges {
			c := api.Config{Rules: rules, Timeout: timeout, Drift: drift}
			if s := config.Print(c); s != told(c) {
				t.Fatalf("Print of %+v = %q, want %q", c, s, told(c))
			}
		}
	}
}

func checkNumbers(t *testing.T, words ...string) {
	t.Helper()
	var want []int
	is := true
	for _, w := range words {
		n, ok := number(w)
		want = append(want, n)
		is = is && ok
	}
	if !is {
		want = nil
	}
	was := slices.Clone(words)
	if l, ok := config.Numbers(words...); ok != is || !slices.Equal(l, want) {
		t.Fatalf("Numbers of %s = %d, %v, want %d, %v", short(words), l, ok, want, is)
	}
	if !slices.Equal(words, was) {
		t.Fatalf("Numbers has changed the words %s", short(was))
	}
}

// P19.2: known words.
func TestKnownNumbers(t *testing.T) {
	for _, x := range []struct {
		words []string
		want  []int
	}{
		{nil, nil},
		{[]string{"0"}, []int{0}},
		{[]string{"-1", "1", "10"}, []int{-1, 1, 10}},
		{[]string{"-9223372036854775808", "9223372036854775807"}, []int{api.Least, api.Most}},
		{[]string{"7", "7", "-7", "7"}, []int{7, 7, -7, 7}},
	} {
		if l, ok := config.Numbers(x.words...); !ok || !slices.Equal(l, x.want) {
			t.Errorf("Numbers of %q = %d, %v", x.words, l, ok)
		}
		checkNumbers(t, x.words...)
	}
}

// P19.2: words of all edges, there and back, one by one and all at once.
func TestNumbers(t *testing.T) {
	var all []string
	for _, n := range edges {
		w := fmt.Sprint(n)
		all = append(all, w)
		checkNumbers(t, w)
		if l, ok := config.Numbers(w); !ok || len(l) != 1 || l[0] != n {
			t.Errorf("Numbers(%q) = %d, %v", w, l, ok)
		}
	}
	checkNumbers(t, all...)
}

// P19.2: a word that is none, alone, and wherever it is among others: none of them is answered.
func TestNumbersOfWrongWords(t *testing.T) {
	for _, w := range wrongWords {
		if l, ok := config.Numbers(w); ok || len(l) != 0 {
			t.Errorf("Numbers(%.50q) = %d, %v", w, l, ok)
		}
		checkNumbers(t, w)
		for at := range 4 {
			words := slices.Insert([]string{"1", "-2", "0"}, at, w)
			if l, ok := config.Numbers(words...); ok || len(l) != 0 {
				t.Errorf("Numbers of %s = %d, %v", short(words), l, ok)
			}
		}
	}
}

// P19.2: all short words of the signs that numbers are made of, and of some others.
func TestNumbersOfAllShortWords(t *testing.T) {
	words := []string{""}
	for range 5 {
		var longer []string
		for _, w := range words {
			checkNumbers(t, w)
			for _, sign := range "019-+ _x\n" {
				longer = append(longer, w+string(sign))
			}
		}
		words = longer
	}
}

// P19.2: each byte, alone, and ahead of, behind and within a number.
func TestNumbersOfEachByte(t *testing.T) {
	for b := range 256 {
		s := string([]byte{byte(b)})
		for _, w := range []string{s, s + "1", "1" + s, "1" + s + "1", "-" + s, "-1" + s, s + s} {
			checkNumbers(t, w)
		}
	}
}

// P19.2: numbers next to the ends, and beyond them, by whole numbers of any size.
func TestNumbersAboutTheEnds(t *testing.T) {
	for _, end := range []int64{api.Least, api.Most, 0} {
		for d := int64(-200); d <= 200; d++ {
			n := new(big.Int).Add(big.NewInt(end), big.NewInt(d))
			checkNumbers(t, n.String())
			// And by a power of 2^64 beyond, where one that wraps round would be the same.
			checkNumbers(t, n.Add(n, new(big.Int).Lsh(big.NewInt(1), 64)).String())
		}
	}
}

// P19.2, P19.3: what can be told, there and back: each number in each place, and each two rules.
func TestParseOfPrint(t *testing.T) {
	checkTold(t, good())
	checkTold(t, api.Config{})
	checkTold(t, api.Config{Rules: rules, Timeout: 7, Drift: -7})
	for _, n := range edges {
		for _, m := range edges {
			checkTold(t, api.Config{Timeout: n, Drift: m, Rules: []api.Rule{
				{Kind: api.Bounded, Bound: n}, {Kind: api.Marked, Sign: m}, {Kind: api.Percent, Percent: n, Window: m},
			}})
		}
	}
	for _, a := range rules {
		checkTold(t, api.Config{Rules: []api.Rule{a}})
		for _, b := range rules {
			checkTold(t, api.Config{Rules: []api.Rule{a, b}, Timeout: 1})
		}
	}
}

// P19.3: whether Check is OK is of no matter.
func TestParseOfWhatCantBe(t *testing.T) {
	for _, lines := range [][]string{
		{"source 5 10"},
		{"source 0 -7"},
		{"source 0 0", "bounded 0"},
		{"source 1 -1", "bounded 0"},
		{"source 1 1", "bounded -1"},
		{"source 1 1", "marked 1114112"},
		{"source 1 1", "percent 101 0"},
		{"source -9223372036854775808 -9223372036854775808", "percent -9223372036854775808 9223372036854775807"},
	} {
		c, bad := config.Parse(lines...)
		if bad != 0 || config.Check(c) == api.OK {
			t.Errorf("Parse of %q = %+v, %d", lines, c, bad)
		}
		checkParse(t, lines...)
	}
}

// P19.1, P19.3: as many lines as there may be partitions, and more.
func TestParseOfManyLines(t *testing.T) {
	for _, many := range []int{4096, 4097, 100000} {
		lines := []string{"source 1 0"}
		for i := range many {
			lines = append(lines, fmt.Sprintf("bounded %d", i))
		}
		c, bad := config.Parse(lines...)
		if bad != 0 || len(c.Rules) != many || c.Rules[many-1].Bound != many-1 {
			t.Fatalf("Parse of %d: %d rules, %d", many, len(c.Rules), bad)
		}
		checkParse(t, lines...)
		if e := config.Check(c); (e == api.OK) != (many <= 4096) {
			t.Errorf("Check of %d = %d", many, e)
		}
		checkBad(t, many+2, append(lines, "bounded")...)
	}
}

// P19.3: no lines, and known ones that are none.
func TestKnownWrongLines(t *testing.T) {
	checkBad(t, 1)
	checkBad(t, 1, []string{}...)
	for _, first := range []string{
		"", " ", "\n", "source", "source ", "source  ", "source 5", "source 5 ", "source 5 10 ", "source 5 10 1", "source 5 10 1 2", "source 5  10", " source 5 10",
		"source\t5 10", "source 5\t10", "Source 5 10", "SOURCE 5 10", "sources 5 10", "sourc 5 10", "5 10", "source 05 10", "source 5 010", "source 5 -0", "source +5 10",
		"source 5 10\n", "\nsource 5 10", "source 5\n10", "source 5 10\r", "source 5 10\nbounded 3", "source 5 10\x00", "source 9223372036854775808 1", "source 1 -9223372036854775809",
		"bounded 3", "marked 33", "percent 90 100", "percent 5 10", "bounded 5 10", "source,5 10", "source 5,10",
	} {
		checkBad(t, 1, first)
		checkBad(t, 1, first, "bounded 3")
		checkBad(t, 1, first, "source 5 10", "other")
	}
}

// P19.3: a line that is no rule, at each place; what is behind it is of no matter.
func TestWrongLinesOfRules(t *testing.T) {
	for _, wrong := range []string{
		"", " ", "\n", "source 5 10", "bounded", "bounded ", "bounded  3", "bounded 3 ", " bounded 3", "bounded 3 4", "bounded 3 4 5", "bounded x", "Bounded 3", "bounde 3", "boundedd 3",
		"bounded 3\n", "\nbounded 3", "bounded 3\nmarked 33", "bounded\n3", "bounded\t3", "bounded 3\r", "bounded 03", "bounded -0", "bounded +3", "bounded 9223372036854775808",
		"marked", "marked ", "marked 33 1", "marked 33\n", "marked !", "marked -9223372036854775809", "markedd 3",
		"percent", "percent ", "percent 90", "percent 90 ", "percent 90 100 ", "percent 90 100 1", "percent 90 100 1 2", "percent 90  100", "percent 90\n100", "percent 90 100\n",
		"percent 90 x", "percent x 100", "percent -0 1", "percent 1 -0", "percent 1 01",
		"other 1", "other", "3", "0 3", "bounded3", "log \"\"", "poll 1",
	} {
		for at := 1; at < 5; at++ {
			checkBad(t, at+1, slices.Insert(goodLines(), at, wrong)...)
			// Wrong ones behind a wrong one.
			lines := append(slices.Insert(goodLines(), at, wrong), "other")
			checkBad(t, at+1, slices.Insert(lines, at+1, wrong)...)
			checkBad(t, 1, append([]string{"other"}, lines...)...)
		}
	}
}

// P19.3: each line with a byte that is left out, put in or changed.
func TestParseOfChangedLines(t *testing.T) {
	some := []byte("\n 0123456789-+_\"\\.abdnmoprsuxABDMS\t\r\x00\x7f\x80\xff")
	for at, line := range goodLines() {
		check := func(changed string) {
			lines := goodLines()
			lines[at] = changed
			checkParse(t, lines...)
		}
		for i := range len(line) {
			check(line[:i] + line[i+1:])
			check(line[:i])
			check(line[i:])
			for _, b := range some {
				check(line[:i] + string([]byte{b}) + line[i:])
				check(line[:i] + string([]byte{b}) + line[i+1:])
			}
		}
		for _, b := range some {
			check(line + string([]byte{b}))
		}
	}
}

// P19.3: each name with as many numbers as it has, and with fewer and more.
func TestParseOfHowManyNumbers(t *testing.T) {
	for _, name := range []string{"source", "bounded", "marked", "percent", "", "other"} {
		line := name
		for range 8 {
			checkParse(t, line)
			checkParse(t, line, "bounded 1")
			checkParse(t, "source 1 1", line)
			checkParse(t, "source 1 1", "bounded 1", line)
			line += " 1"
		}
	}
}

// P19.3: lines that are far too long.
func TestParseOfLongLines(t *testing.T) {
	for _, piece := range []string{" ", " 1", "1", "\n", "x"} {
		tail := strings.Repeat(piece, 1<<16)
		checkBad(t, 1, "source 5 10"+tail)
		checkBad(t, 2, "source 5 10", "percent 1 2"+tail)
		checkBad(t, 2, "source 5 10", "bounded 1"+tail)
		checkBad(t, 2, "source 5 10", tail)
	}
}

// P2: what is answered is new memory, and what is handed in isn't kept: neither is changed by the other.
func TestAnswersAreNewMemory(t *testing.T) {
	lines := goodLines()
	a, _ := config.Parse(lines...)
	lines[1] = "marked 5"
	b, _ := config.Parse(goodLines()...)
	b.Rules[0] = api.Rule{Kind: api.Marked}
	_ = append(b.Rules[:1], api.Rule{Kind: 7})
	if !same(a, good()) {
		t.Errorf("an answer has become %+v", a)
	}
	words := []string{"1", "2", "3"}
	l, _ := config.Numbers(words...)
	m, _ := config.Numbers(words...)
	words[0] = "5"
	m[1] = 7
	if !slices.Equal(l, []int{1, 2, 3}) {
		t.Errorf("an answer has become %d", l)
	}
}

// P2: spare room of what is handed in stays as it was.
func TestSpareRoom(t *testing.T) {
	lines := append(goodLines(), "spare", "room")
	checkParse(t, lines[:4]...)
	if lines[4] != "spare" || lines[5] != "room" {
		t.Errorf("the lines have become %q", lines)
	}
	c := good()
	spare := append(c.Rules, api.Rule{Kind: 7})
	c.Rules = spare[:3]
	config.Check(c)
	config.Print(c)
	if spare[3] != (api.Rule{Kind: 7}) || !slices.Equal(spare[:3], good().Rules) {
		t.Errorf("the rules have become %+v", spare)
	}
}

// P1, P19.2, P19.3: any text's lines.
func FuzzParse(f *testing.F) {
	f.Add("source 5 10\nbounded 3\nmarked 33\npercent 90 100")
	f.Add("source -9223372036854775808 9223372036854775807\npercent 0 -1")
	f.Add("source 5 10\nbounded 03\n")
	f.Add("")
	f.Fuzz(func(t *testing.T, s string) {
		checkParse(t, strings.Split(s, "\n")...)
		// Two lines as one, which is none.
		checkParse(t, strings.SplitN(s, "\n", 2)...)
		checkNumbers(t, strings.Split(s, " ")...)
	})
}

// P1, P19.1, P19.2: any numbers.
func FuzzCheckAndPrint(f *testing.F) {
	f.Add(5, 10, 0, 3, 0, 0, 0)
	f.Add(1, 0, 1, 0, 0, 0, 33)
	f.Add(0, -1, 2, 0, 90, 100, 0)
	f.Add(1, 0, 3, 1, 1, 1, 1)
	f.Fuzz(func(t *testing.T, timeout, drift, kind, bound, percent, window, sign int) {
		r := api.Rule{Kind: kind, Bound: bound, Percent: percent, Window: window, Sign: sign}
		c := api.Config{Rules: []api.Rule{{}, r}, Timeout: timeout, Drift: drift}
		if s := config.Print(c); s != told(c) {
			t.Fatalf("Print of %+v = %q, want %q", c, s, told(c))
		}
		want := gen.Check(r)
		if timeout < 1 || drift < 0 {
			want = api.ErrRange
		}
		checkCheck(t, c, want)
	})
}
