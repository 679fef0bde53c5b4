package choice_test

import (
	"encoding/binary"
	"fmt"
	"math/big"
	"regexp"
	"slices"
	"strings"
	"testing"

	"tidewaiter/api"
	"tidewaiter/choice"
)

// edges: numbers at both ends, about 0, and about those at which there is one digit more.
var edges = []int{
	api.Least, api.Least + 1, -1<<53 - 1, -1 << 32, -101, -100, -99, -10, -9, -2, -1, 0, 1, 2, 3, 9, 10, 11, 99, 100, 101,
	4096, 1<<31 - 1, 1 << 31, 1 << 32, 1<<53 + 1, api.Most - 1, api.Most,
}

// wrongLines: those of no choice.
var wrongLines = []string{
	"", " ", "\n", "poll", "tick", "poll ", "tick ", "poll  ", " poll", "1", " 1", "-1", "poll1", "tick5", "poll\t1", "poll\n1",
	"poll 1 ", "poll 1 2", "poll 1 2 3", " poll 1", "poll  1", "tick  1", "tick 1 ", "tick 1 2", "poll 1\n", "tick 1\n", "\ntick 1", "poll 1\r", "tick 1\r\n", "poll 1\ntick 1",
	"Poll 1", "POLL 1", "pol 1", "polls 1", "pool 1", "Tick 1", "ticks 1", "tic 1", "tock 1", "ptick 1", "polltick 1", "poll tick 1", "source 5 10", "bounded 3", "other 1",
	"poll 01", "poll 00", "poll -0", "poll +1", "poll -01", "poll --1", "poll -", "poll +", "tick 01", "tick -0", "tick +5", "tick 1.0", "tick 1e3", "tick 1_0", "tick 0x1", "tick x", "poll \"1\"",
	"poll 9223372036854775808", "tick 9223372036854775808", "poll -9223372036854775809", "tick 18446744073709551616", "tick 99999999999999999999",
	"poll 1\x00", "\x00poll 1", "poll \xff", "poll \u0661", "tick\u00a05", "poll \u22121",
}

// lineOf: what Line should answer.
func lineOf(c api.Choice) string {
	if c.Tick {
		return fmt.Sprintf("tick %d", c.N)
	}
	return fmt.Sprintf("poll %d", c.N)
}

var shape = regexp.MustCompile(`\A(poll|tick) (0|-?[1-9][0-9]*)\z`)

// read: what Read should answer, by whole numbers of any size.
func read(s string) (api.Choice, bool) {
	m := shape.FindStringSubmatch(s)
	if m == nil {
		return api.Choice{}, false
	}
	n, _ := new(big.Int).SetString(m[2], 10)
	if !n.IsInt64() {
		return api.Choice{}, false
	}
	return api.Choice{Tick: m[1] == "tick", N: int(n.Int64())}, true
}

// ticks: what Ticks should answer: as no tick that counts is below 0, the end is met once, for good.
func ticks(l []api.Choice) int {
	sum := new(big.Int)
	for _, c := range l {
		if c.Tick && c.N >= 0 {
			sum.Add(sum, big.NewInt(int64(c.N)))
		}
	}
	if sum.Cmp(big.NewInt(api.Most)) > 0 {
		return api.Most
	}
	return int(sum.Int64())
}

func checkRead(t *testing.T, s string) {
	t.Helper()
	want, is := read(s)
	// Twice, as nothing is kept.
	for range 2 {
		if c, ok := choice.Read(s); c != want || ok != is {
			t.Fatalf("Read(%.100q) = %+v, %v, want %+v, %v", s, c, ok, want, is)
		}
	}
}

// checkLine: a choice's line, and back.
func checkLine(t *testing.T, c api.Choice) {
	t.Helper()
	s := choice.Line(c)
	if s != lineOf(c) {
		t.Fatalf("Line(%+v) = %q, want %q", c, s, lineOf(c))
	}
	if back, ok := choice.Read(s); back != c || !ok {
		t.Fatalf("Read(%q) = %+v, %v", s, back, ok)
	}
}

func checkTicks(t *testing.T, want int, l ...api.Choice) {
	t.Helper()
	was := slices.Clone(l)
	for range 2 {
		if got := choice.Ticks(l...); got != want {
			t.Fatalf("Ticks of %+v = %d, want %d", l, got, want)
		}
	}
	if !slices.Equal(l, was) {
		t.Fatalf("Ticks has changed %+v", was)
	}
}

// P20.2: the document's example.
func TestTheDocumentsExample(t *testing.T) {
	if s := choice.Line(choice.Tick(5)); s != "tick 5" {
		t.Errorf("Line = %q", s)
	}
	if c, ok := choice.Read("tick 5"); c != choice.Tick(5) || !ok {
		t.Errorf("Read = %+v, %v", c, ok)
	}
}

// P20.1: a poll, and a tick, of each number.
func TestPollAndTick(t *testing.T) {
	for _, n := range edges {
		if c := choice.Poll(n); c != (api.Choice{Tick: false, N: n}) {
			t.Errorf("Poll(%d) = %+v", n, c)
		}
		if c := choice.Tick(n); c != (api.Choice{Tick: true, N: n}) {
			t.Errorf("Tick(%d) = %+v", n, c)
		}
		if choice.Poll(n) == choice.Tick(n) {
			t.Errorf("Poll and Tick of %d are the same", n)
		}
	}
}

// P20.1: known rounds.
func TestKnownRounds(t *testing.T) {
	for _, x := range []struct {
		parts, rounds int
		want          []int
	}{
		{1, 1, []int{0}},
		{1, 3, []int{0, 0, 0}},
		{3, 1, []int{0, 1, 2}},
		{2, 2, []int{0, 1, 0, 1}},
		{3, 2, []int{0, 1, 2, 0, 1, 2}},
		{2, 3, []int{0, 1, 0, 1, 0, 1}},
	} {
		var want []api.Choice
		for _, i := range x.want {
			want = append(want, api.Choice{N: i})
		}
		if l := choice.Round(x.parts, x.rounds); !slices.Equal(l, want) {
			t.Errorf("Round(%d, %d) = %+v", x.parts, x.rounds, l)
		}
	}
}

// P20.1: as many as parts, as often as rounds.
func TestRound(t *testing.T) {
	for parts := -3; parts <= 20; parts++ {
		for rounds := -3; rounds <= 20; rounds++ {
			l := choice.Round(parts, rounds)
			if len(l) != max(parts, 0)*max(rounds, 0) {
				t.Fatalf("Round(%d, %d) has %d", parts, rounds, len(l))
			}
			for i, c := range l {
				if c != (api.Choice{N: i % parts}) {
					t.Fatalf("of Round(%d, %d) %d is %+v", parts, rounds, i, c)
				}
			}
		}
	}
}

// P1, P20.1: no rounds, or of none, are none at once, however many the others are.
func TestRoundOfNone(t *testing.T) {
	for _, none := range []int{api.Least, api.Least + 1, -1 << 32, -1, 0} {
		for _, n := range edges {
			if l := choice.Round(none, n); len(l) != 0 {
				t.Errorf("Round(%d, %d) has %d", none, n, len(l))
			}
			if l := choice.Round(n, none); len(l) != 0 {
				t.Errorf("Round(%d, %d) has %d", n, none, len(l))
			}
		}
	}
}

// P1: of rounds that are beyond all limits nothing is promised, but they end, also where their product wraps round to few.
func TestRoundBeyondAllLimits(t *testing.T) {
	for _, n := range []int{1 << 31, 1 << 32, 1<<32 + 1, 1 << 62, api.Most - 1, api.Most} {
		choice.Round(n, n)
		choice.Round(n, 1)
		choice.Round(1, n)
		choice.Round(4096, n)
		choice.Round(n, 4096)
	}
}

// P20.1: many partitions once, and one many times.
func TestManyRounds(t *testing.T) {
	const many = 1 << 22
	once := choice.Round(many, 1)
	if len(once) != many || once[0] != choice.Poll(0) || once[many-1] != choice.Poll(many-1) {
		t.Errorf("Round(%d, 1) has %d", many, len(once))
	}
	often := choice.Round(1, many)
	if len(often) != many || slices.ContainsFunc(often, func(c api.Choice) bool { return c != choice.Poll(0) }) {
		t.Errorf("Round(1, %d) has %d, or others", many, len(often))
	}
}

// P2: each Round is new memory.
func TestRoundsAreNewMemory(t *testing.T) {
	a, b := choice.Round(2, 3), choice.Round(2, 3)
	b[0] = choice.Tick(9)
	_ = append(b[:2], choice.Tick(8))
	if !slices.Equal(a, choice.Round(2, 3)) {
		t.Errorf("a Round has become %+v", a)
	}
}

// P20.1: known ticks: polls, and those below 0, are none.
func TestKnownTicks(t *testing.T) {
	poll, tick := choice.Poll, choice.Tick
	checkTicks(t, 0)
	checkTicks(t, 0, []api.Choice{}...)
	checkTicks(t, 0, poll(5), poll(api.Most), poll(api.Least), poll(-1))
	checkTicks(t, 0, tick(0), tick(-1), tick(api.Least))
	checkTicks(t, 5, tick(5))
	checkTicks(t, 7, tick(3), poll(9), tick(-5), tick(4))
	checkTicks(t, 7, tick(-5), tick(3), tick(4), tick(-7), poll(-2))
	checkTicks(t, 1, tick(0), tick(1), tick(0))
	checkTicks(t, api.Most, tick(api.Most))
	checkTicks(t, api.Most, tick(api.Most), tick(1))
	checkTicks(t, api.Most, tick(1), tick(api.Most))
	checkTicks(t, api.Most, tick(api.Most), tick(api.Most), tick(api.Most))
	checkTicks(t, api.Most, tick(api.Most-1), tick(1))
	checkTicks(t, api.Most-1, tick(api.Most-2), tick(1))
	// It doesn't come back from the end.
	checkTicks(t, api.Most, tick(api.Most), tick(1), tick(-5), tick(api.Least), poll(-1))
}

// P20.1: each three of the edges, ticks and polls.
func TestTicksOfEachThree(t *testing.T) {
	for _, a := range edges {
		for _, b := range edges {
			for _, c := range edges {
				for which := range 8 {
					l := []api.Choice{{Tick: which&1 > 0, N: a}, {Tick: which&2 > 0, N: b}, {Tick: which&4 > 0, N: c}}
					if got := choice.Ticks(l...); got != ticks(l) {
						t.Fatalf("Ticks of %+v = %d, want %d", l, got, ticks(l))
					}
				}
			}
		}
	}
}

// P20.2: known lines.
func TestKnownLines(t *testing.T) {
	for s, c := range map[string]api.Choice{
		"poll 0":                    {},
		"poll 3":                    {N: 3},
		"poll -1":                   {N: -1},
		"tick 0":                    {Tick: true},
		"tick 10":                   {Tick: true, N: 10},
		"tick -5":                   {Tick: true, N: -5},
		"poll -9223372036854775808": {N: api.Least},
		"tick 9223372036854775807":  {Tick: true, N: api.Most},
	} {
		if got := choice.Line(c); got != s {
			t.Errorf("Line(%+v) = %q, want %q", c, got, s)
		}
		checkLine(t, c)
		checkRead(t, s)
	}
}

// P20.2: each number's lines, there and back.
func TestLineAndRead(t *testing.T) {
	for _, n := range edges {
		checkLine(t, choice.Poll(n))
		checkLine(t, choice.Tick(n))
	}
	for n := -1100; n <= 1100; n++ {
		checkLine(t, choice.Poll(n))
		checkLine(t, choice.Tick(n))
	}
}

// P20.2: what is no line of any choice.
func TestReadOfWrongLines(t *testing.T) {
	for _, s := range append(wrongLines, "poll "+strings.Repeat("9", 1000), "tick "+strings.Repeat("0", 1000), strings.Repeat("poll ", 1<<18), strings.Repeat(" ", 1<<20)) {
		if c, ok := choice.Read(s); ok || c != (api.Choice{}) {
			t.Errorf("Read(%.100q) = %+v, %v", s, c, ok)
		}
		checkRead(t, s)
	}
}

// P20.2: numbers about the ends, and beyond them.
func TestReadAboutTheEnds(t *testing.T) {
	for _, end := range []int64{api.Least, api.Most, 0} {
		for d := int64(-200); d <= 200; d++ {
			n := new(big.Int).Add(big.NewInt(end), big.NewInt(d))
			checkRead(t, "poll "+n.String())
			checkRead(t, "tick "+n.String())
			n.Add(n, new(big.Int).Lsh(big.NewInt(1), 64))
			checkRead(t, "poll "+n.String())
			checkRead(t, "tick "+n.String())
		}
	}
}

// P20.2: a line with any byte that is left out, put in or changed is another one's line, or none.
func TestReadOfChangedLines(t *testing.T) {
	for _, s := range []string{"poll 3", "tick 10", "poll -12", "tick 9223372036854775807"} {
		for i := range len(s) {
			checkRead(t, s[:i])
			checkRead(t, s[i:])
			checkRead(t, s[:i]+s[i+1:])
		}
		for b := range 256 {
			x := string([]byte{byte(b)})
			for i := range len(s) {
				checkRead(t, s[:i]+x+s[i:])
				checkRead(t, s[:i]+x+s[i+1:])
			}
			checkRead(t, s+x)
		}
	}
}

// Choices are held against one another by ==.
func TestChoicesAreComparable(t *testing.T) {
	c := api.Choice{Tick: true, N: 5}
	same := c
	if c != same || c == (api.Choice{Tick: true, N: 6}) || c == (api.Choice{N: 5}) {
		t.Error("choices are not held against one another field by field")
	}
}

// P1, P20.2: any text.
func FuzzRead(f *testing.F) {
	for _, s := range []string{"poll 3", "tick -5", "tick 9223372036854775808", "poll -0", "poll  1", ""} {
		f.Add(s)
	}
	f.Fuzz(func(t *testing.T, s string) {
		checkRead(t, s)
		checkRead(t, "poll "+s)
		checkRead(t, "tick "+s)
	})
}

// P1, P20.1, P20.2: any choices, a byte of which it is and 8 of the number each.
func FuzzTicksAndLine(f *testing.F) {
	f.Add([]byte("\x01\x00\x00\x00\x00\x00\x00\x00\x05\x00\x00\x00\x00\x00\x00\x00\x00\x07"))
	f.Add([]byte("\x01\x7F\xFF\xFF\xFF\xFF\xFF\xFF\xFF\x01\x00\x00\x00\x00\x00\x00\x00\x01\x01\xFF\xFF\xFF\xFF\xFF\xFF\xFF\xFF"))
	f.Fuzz(func(t *testing.T, b []byte) {
		var l []api.Choice
		for ; len(b) >= 9; b = b[9:] {
			c := api.Choice{Tick: b[0]&1 > 0, N: int(binary.BigEndian.Uint64(b[1:]))}
			checkLine(t, c)
			l = append(l, c)
		}
		checkTicks(t, ticks(l), l...)
	})
}
