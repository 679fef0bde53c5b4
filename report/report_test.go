package report_test

import (
	"fmt"
	"math/rand"
	"regexp"
	"slices"
	"strings"
	"testing"
	"unsafe"

	"tidewaiter/api"
	"tidewaiter/choice"
	"tidewaiter/config"
	"tidewaiter/event"
	"tidewaiter/log"
	"tidewaiter/model"
	"tidewaiter/quote"
	"tidewaiter/report"
)

// at: a record of a time. times: a log of records of these times.
func at(time int) api.Record { return api.Record{Kind: api.Data, Time: time} }

func times(l ...int) string {
	var records []api.Record
	for _, n := range l {
		records = append(records, at(n))
	}
	return logOf(records...)
}

func logOf(l ...api.Record) string {
	s, e := log.Build(l...)
	if e != api.OK {
		panic(e)
	}
	return s
}

// good: a Script of all kinds of lines, whose logs are of all kinds of bytes; goodText: its Print.
func good() report.Script {
	return report.Script{
		Config:  api.Config{Rules: []api.Rule{{Bound: 3}, {Kind: api.Marked, Sign: 33}, {Kind: api.Percent, Percent: 90, Window: 100}}, Timeout: 5, Drift: 10},
		Logs:    []string{"", "a \"\\\n\r\t\x00\x7f\xff\u00e4", "log \"\"\npoll 0\n"},
		Choices: []api.Choice{choice.Poll(0), choice.Tick(-7), choice.Poll(api.Least), choice.Tick(api.Most)},
	}
}

const goodText = `source 5 10
bounded 3
marked 33
percent 90 100
log ""
log "a \"\\\u{a}\u{d}\u{9}\u{0}\u{7f}\xff\u{e4}"
log "log \"\"\u{a}poll 0\u{a}"
poll 0
tick -7
poll -9223372036854775808
tick 9223372036854775807
`

// same: are two Scripts like ones? Lists without items are.
func same(a, b report.Script) bool {
	return a.Config.Timeout == b.Config.Timeout && a.Config.Drift == b.Config.Drift && slices.Equal(a.Config.Rules, b.Config.Rules) && slices.Equal(a.Logs, b.Logs) && slices.Equal(a.Choices, b.Choices)
}

const number = `(?:0|-?[1-9][0-9]*)`

// shapes: what a script's lines are like, kind by kind, in the order in which they stand.
var shapes = []*regexp.Regexp{
	regexp.MustCompile(`\Asource ` + number + ` ` + number + `\z`),
	regexp.MustCompile(`\A(?:bounded ` + number + `|marked ` + number + `|percent ` + number + ` ` + number + `)\z`),
	regexp.MustCompile(`\Alog ".*"\z`),
	regexp.MustCompile(`\A(?:poll|tick) ` + number + `\z`),
}

// Kinds of lines, by their places among the shapes.
const (
	headLine = 0
	logLine  = 2
)

// kindOf: which of the shapes a line has; -1: none.
func kindOf(line string) int {
	kind := slices.IndexFunc(shapes, func(r *regexp.Regexp) bool { return r.MatchString(line) })
	is := true
	switch kind {
	case logLine:
		_, is = quote.Unquote(strings.TrimPrefix(line, "log "))
	case -1:
	default:
		// Numbers that are too great for an int have the shape, too.
		_, is = config.Numbers(strings.Split(line, " ")[1:]...)
	}
	if !is {
		return -1
	}
	return kind
}

// bad: what Parse should say beside the Script, by the shapes of the lines.
func bad(text string) int {
	last := 0
	for i, line := range strings.SplitAfter(text, "\n") {
		if line == "" && i > 0 {
			return 0
		}
		kind := kindOf(strings.TrimSuffix(line, "\n"))
		if !strings.HasSuffix(line, "\n") || kind < last || (kind == headLine) != (i == 0) {
			return i + 1
		}
		last = kind
	}
	return 0
}

// checkParse: what a text is, by the shapes of its lines; and that it is the Print of what it is.
func checkParse(t *testing.T, text string) {
	t.Helper()
	want := bad(text)
	// Twice, as nothing is kept.
	for range 2 {
		s, got := report.Parse(text)
		if got != want || got != 0 && !same(s, report.Script{}) {
			t.Fatalf("Parse of %.300q = %+v, %d, want %d", text, s, got, want)
		}
		if got == 0 && report.Print(s) != text {
			t.Fatalf("the Print of what Parse has of %.300q is %.300q", text, report.Print(s))
		}
	}
	if want != 0 && report.Run(text) != fmt.Sprintf("line %d\n", want) {
		t.Fatalf("Run of %.300q = %q, want line %d", text, report.Run(text), want)
	}
}

// checkBad: a text is none from this line on.
func checkBad(t *testing.T, text string, line int) {
	t.Helper()
	if s, got := report.Parse(text); got != line || s.Config.Rules != nil || s.Logs != nil || s.Choices != nil || !same(s, report.Script{}) {
		t.Fatalf("Parse of %.300q = %+v, %d, want %d", text, s, got, line)
	}
	checkParse(t, text)
}

// checkTold: a Script whose Config can be told, there and back.
func checkTold(t *testing.T, s report.Script) {
	t.Helper()
	text := report.Print(s)
	var b strings.Builder
	b.WriteString(config.Print(s.Config))
	for _, l := range s.Logs {
		fmt.Fprintf(&b, "log %s\n", quote.Quote(l))
	}
	for _, c := range s.Choices {
		fmt.Fprintf(&b, "%s\n", choice.Line(c))
	}
	want := b.String()
	if text != want || report.Print(s) != want {
		t.Fatalf("Print of %+v = %q, want %q", s, text, want)
	}
	if got, bad := report.Parse(text); bad != 0 || !same(got, s) {
		t.Fatalf("Parse of the Print of %+v = %+v, %d", s, got, bad)
	}
	checkParse(t, text)
}

// P26.1, P26.2: the document's example.
func TestTheDocumentsExample(t *testing.T) {
	const want = "mark 9223372036854775807\npart 0 2 0 -9223372036854775808\nend 9223372036854775807 0 0\n"
	if got := report.Run("source 1 0\nbounded 0\nlog \"\"\n"); got != want {
		t.Errorf("Run = %q, want %q", got, want)
	}
}

// P26.1: known ones, there and back.
func TestPrintAndParse(t *testing.T) {
	if text := report.Print(good()); text != goodText {
		t.Errorf("Print = %q", text)
	}
	s, bad := report.Parse(goodText)
	if bad != 0 || !same(s, good()) {
		t.Errorf("Parse = %+v, %d", s, bad)
	}
	checkTold(t, good())
	checkTold(t, report.Script{})
	if text := report.Print(report.Script{}); text != "source 0 0\n" {
		t.Errorf("Print of the zero one = %q", text)
	}
	// Each list may be left out.
	for i := range 8 {
		s := good()
		if i&1 > 0 {
			s.Config.Rules = nil
		}
		if i&2 > 0 {
			s.Logs = nil
		}
		if i&4 > 0 {
			s.Choices = nil
		}
		checkTold(t, s)
	}
}

// P26.1: whether there can be such a source is of no matter; nor how many there are of each.
func TestScriptsThatCantBePlayed(t *testing.T) {
	checkTold(t, report.Script{Config: api.Config{Rules: []api.Rule{{Bound: -1}, {Kind: api.Marked, Sign: api.Least}, {Kind: api.Percent, Percent: 101, Window: -3}}, Timeout: api.Least, Drift: -1}, Logs: []string{"x"}})
	for _, many := range []int{1, 2, 4096, 4097, 10000} {
		checkTold(t, report.Script{Config: api.Config{Rules: make([]api.Rule, many)}})
		checkTold(t, report.Script{Logs: slices.Repeat([]string{"a"}, many)})
		checkTold(t, report.Script{Choices: slices.Repeat([]api.Choice{choice.Tick(3)}, many)})
	}
}

// P26.1: each byte in a log, and numbers at the edges.
func TestPrintAndParseOfEdges(t *testing.T) {
	s := good()
	for b := range 256 {
		s.Logs = append(s.Logs, string([]byte{byte(b)}), "a"+string([]byte{byte(b)})+"b", string(rune(b)))
	}
	checkTold(t, s)
	for _, n := range []int{api.Least, -10, -1, 0, 1, 9, 10, api.Most} {
		s := good()
		s.Config = api.Config{Rules: []api.Rule{{Bound: n}, {Kind: api.Marked, Sign: n}, {Kind: api.Percent, Percent: n, Window: n}}, Timeout: n, Drift: n}
		s.Choices = []api.Choice{choice.Poll(n), choice.Tick(n)}
		checkTold(t, s)
	}
}

// P26.1: the first line by which there is no script any more.
func TestParseOfWrongTexts(t *testing.T) {
	const head, rule, log, poll = "source 5 10\n", "bounded 3\n", "log \"a\"\n", "poll 0\n"
	for _, x := range []struct {
		text string
		line int
	}{
		// The first line must be there, and ended.
		{"", 1},
		{"\n", 1},
		{"\n" + head, 1},
		{"source 5 10", 1},
		{"source", 1},
		{"sour", 1},
		{"x", 1},
		{"x\n", 1},
		{rule, 1},
		{log, 1},
		{poll, 1},
		{"source 5\n", 1},
		{"source 5 10 1\n", 1},
		{"source 5 10 \n", 1},
		{" source 5 10\n", 1},
		{"source  5 10\n", 1},
		{"source 05 10\n", 1},
		{"Source 5 10\n", 1},
		{"source 5 10\r\n", 1},
		{"source 5 9223372036854775808\n", 1},
		{"x\ny\n" + head, 1},
		// It stands there once.
		{head + head, 2},
		{head + rule + head, 3},
		{head + rule + log + poll + head, 5},
		// The others stand in order.
		{head + log + rule, 3},
		{head + poll + rule, 3},
		{head + poll + log, 3},
		{head + rule + log + poll + log, 5},
		{head + rule + log + poll + rule, 5},
		{head + rule + log + rule + log, 4},
		{head + rule + rule + log + log + poll + poll + rule, 8},
		{head + poll + rule + "x\n", 3},
		// There is no line beside.
		{head + "\n", 2},
		{head + "\n" + rule, 2},
		{head + rule + "\n", 3},
		{head + rule + log + poll + "\n", 5},
		{head + "x\n" + rule, 2},
		{head + rule + "mark 5\n", 3},
		{head + rule + log + "x\n" + poll, 4},
		{head + rule + log + poll + "x\ny\n", 5},
		// Each is ended.
		{head + "bounded 3", 2},
		{head + "bounded", 2},
		{head + "b", 2},
		{head + "x", 2},
		{head + rule + "log \"a\"", 3},
		{head + rule + "log \"a", 3},
		{head + rule + log + "poll 0", 4},
		{head + rule + log + poll + " ", 5},
		{head + poll + "bounded 3", 3},
		{head + "x\nbounded 3", 2},
		// Each is told in the one way there is.
		{head + "bounded 03\n", 2},
		{head + "bounded +3\n", 2},
		{head + "bounded -0\n", 2},
		{head + "bounded 3 3\n", 2},
		{head + "bounded\n", 2},
		{head + "percent 90\n", 2},
		{head + "marked 33 \n", 2},
		{head + "source 5 10 bounded 3\n", 2},
		{head + rule + "log\n", 3},
		{head + rule + "log \n", 3},
		{head + rule + "log\"a\"\n", 3},
		{head + rule + "log  \"a\"\n", 3},
		{head + rule + "log \"a\" \n", 3},
		{head + rule + "log \"a\"\r\n", 3},
		{head + rule + "log \"a\n", 3},
		{head + rule + "log a\n", 3},
		{head + rule + "log \"\n", 3},
		{head + rule + "log \"\"\"\n", 3},
		{head + rule + "log \"\\n\"\n", 3},
		{head + rule + "log \"\\u{A}\"\n", 3},
		{head + rule + "log \"\\u{0a}\"\n", 3},
		{head + rule + "log \"\\u{61}\"\n", 3},
		{head + rule + "log \"\\x61\"\n", 3},
		{head + rule + "log \"\xff\"\n", 3},
		{head + rule + "log \"\u00e4\"\n", 3},
		{head + rule + "log \"\t\"\n", 3},
		{head + rule + "log \"a\nb\"\n", 3},
		{head + rule + "Log \"a\"\n", 3},
		{head + rule + log + "poll\n", 4},
		{head + rule + log + "poll 00\n", 4},
		{head + rule + log + "poll 0 \n", 4},
		{head + rule + log + "poll 0 1\n", 4},
		{head + rule + log + "poll  0\n", 4},
		{head + rule + log + "Poll 0\n", 4},
		{head + rule + log + "tick -0\n", 4},
		{head + rule + log + "tick -9223372036854775809\n", 4},
		{head + rule + log + "poll 0\r\n", 4},
		{head + rule + log + "poll 0\x00\n", 4},
		{strings.Repeat("\n", 1<<20), 1},
		{head + strings.Repeat("\n", 1<<20), 2},
		{head + strings.Repeat(rule, 1000) + "x", 1002},
		{head + strings.Repeat("1 ", 1<<19), 2},
		{head + "log " + strings.Repeat("\"", 1<<19) + "\n", 2},
		{head + "poll " + strings.Repeat("9", 1<<19) + "\n", 2},
	} {
		checkBad(t, x.text, x.line)
	}
}

// P26.1: a text of whose bytes some are left out, put in or changed is another Script's Print, or none's.
func TestParseOfChangedTexts(t *testing.T) {
	const text = "source 5 -1\nbounded 3\npercent 9 1\nlog \"\"\nlog \"a\\u{a}\\xff\"\npoll 0\ntick -7\n"
	if bad(text) != 0 {
		t.Fatal("that isn't a Script's Print")
	}
	for i := range len(text) {
		checkParse(t, text[:i])
		checkParse(t, text[i:])
		checkParse(t, text[:i]+text[i+1:])
		for _, x := range "\n \"\\-01ax{\r\t+" {
			checkParse(t, text[:i]+string(x)+text[i:])
			checkParse(t, text[:i]+string(x)+text[i+1:])
		}
	}
	for b := range 256 {
		x := string([]byte{byte(b)})
		checkParse(t, text+x)
		checkParse(t, text+x+"\n")
		checkParse(t, x+text)
	}
}

// P26.1: lines of all kinds in all orders.
func TestParseOfAllOrders(t *testing.T) {
	lines := []string{"source 5 10\n", "bounded 3\n", "marked 0\n", "log \"\"\n", "poll 1\n", "tick 1\n", "\n", "x\n"}
	texts := []string{""}
	for range 5 {
		var longer []string
		for _, text := range texts {
			checkParse(t, text)
			for _, line := range lines {
				longer = append(longer, text+line)
			}
		}
		texts = longer
	}
	for _, text := range texts {
		checkParse(t, text)
		checkParse(t, strings.TrimSuffix(text, "\n"))
	}
}

// checkPlay: what a Script answers, told as a text, too.
func checkPlay(t *testing.T, s report.Script, want string) {
	t.Helper()
	// Twice, as nothing is kept.
	for range 2 {
		if got := report.Play(s); got != want {
			t.Fatalf("Play of %.300q:\n%swant\n%s", report.Print(s), got, want)
		}
		if got := report.Run(report.Print(s)); got != want {
			t.Fatalf("Run of %.300q:\n%swant\n%s", report.Print(s), got, want)
		}
	}
}

// P26.2: of partitions that are all four, and of none of which anything was read.
func TestPlayOfBeginnings(t *testing.T) {
	one, two := []api.Rule{{}}, []api.Rule{{}, {}}
	for _, x := range []struct {
		s    report.Script
		want string
	}{
		{report.Script{Config: api.Config{Rules: one, Timeout: 1}, Logs: []string{""}}, "mark 9223372036854775807\npart 0 2 0 -9223372036854775808\nend 9223372036854775807 0 0\n"},
		{report.Script{Config: api.Config{Rules: one, Timeout: 1}, Logs: []string{"\x01"}}, "fault 0 4\nmark 9223372036854775807\npart 0 3 0 -9223372036854775808\nend 9223372036854775807 0 0\n"},
		{report.Script{Config: api.Config{Rules: two, Timeout: 4}, Logs: []string{times(5), times(3)}}, "part 0 0 0 -9223372036854775808\npart 1 0 0 -9223372036854775808\nend -9223372036854775808 0 0\n"},
		{
			report.Script{
				Config:  api.Config{Rules: two, Timeout: 4},
				Logs:    []string{times(5), "\x80"},
				Choices: []api.Choice{choice.Tick(3), choice.Tick(2), choice.Poll(7), choice.Poll(-1), choice.Tick(-1), choice.Poll(1)},
			},
			"fault 1 1\npart 0 1 0 -9223372036854775808\npart 1 3 0 -9223372036854775808\nend -9223372036854775808 5 0\n",
		},
	} {
		checkPlay(t, x.s, x.want)
	}
}

// P26.2: what comes out, each partition, and the end.
func TestPlay(t *testing.T) {
	s := report.Script{
		Config:  api.Config{Rules: []api.Rule{{Bound: 1}, {Kind: api.Marked, Sign: '!'}, {Kind: api.Percent, Percent: 100, Window: 1}}, Timeout: 3, Drift: 100},
		Logs:    []string{times(5, 9), logOf(api.Record{Kind: api.Data, Time: 4, Text: "a\n!"}, at(3), at(2)) + "\x80", times(20)},
		Choices: []api.Choice{choice.Poll(1), choice.Poll(2), choice.Tick(2), choice.Poll(0), choice.Poll(1), choice.Tick(1), choice.Poll(0), choice.Tick(6)},
	}
	const came = `element 1 1 4 "a\u{a}!"
element 2 1 20 ""
element 0 1 5 ""
mark 3
late 1 1 3 ""
element 0 1 9 ""
mark 4
`
	checkPlay(t, s, came+`part 0 2 2 7
part 1 1 2 4
part 2 2 1 19
end 4 9 1
`)
	s.Choices = append(s.Choices, choice.Poll(1))
	checkPlay(t, s, came+`late 1 1 2 ""
fault 1 1
mark 9223372036854775807
part 0 2 2 7
part 1 3 3 4
part 2 2 1 19
end 9223372036854775807 9 2
`)
}

// P26.2: why there is no source, and nothing beside it.
func TestPlayErrors(t *testing.T) {
	for _, x := range []struct {
		c    api.Config
		logs []string
		want string
	}{
		{api.Config{}, nil, "error 6\n"},
		{api.Config{Rules: make([]api.Rule, config.MaxParts+1)}, nil, "error 6\n"},
		{api.Config{Rules: make([]api.Rule, 1)}, nil, "error 7\n"},
		{api.Config{Rules: make([]api.Rule, 1), Timeout: 1, Drift: -1}, nil, "error 7\n"},
		{api.Config{Rules: make([]api.Rule, 1), Timeout: 1}, nil, "error 6\n"},
		{api.Config{Rules: make([]api.Rule, 1), Timeout: 1}, []string{"", "\x01"}, "error 6\n"},
		{api.Config{Rules: []api.Rule{{}, {Bound: -1}}, Timeout: 1}, nil, "error 7\n"},
		{api.Config{Rules: []api.Rule{{Kind: api.Percent}}, Timeout: 1}, []string{""}, "error 7\n"},
	} {
		s := report.Script{Config: x.c, Logs: x.logs, Choices: []api.Choice{choice.Poll(0)}}
		checkPlay(t, s, x.want)
	}
	// A Config that can't be told can be played all the same, or not.
	s := report.Script{Config: api.Config{Rules: []api.Rule{{Kind: 3}}, Timeout: 1}, Logs: []string{""}}
	if got := report.Play(s); got != "error 3\n" {
		t.Errorf("Play of a rule of another Kind = %q", got)
	}
	s.Config.Rules[0] = api.Rule{Kind: api.Bounded, Sign: 7}
	if got := report.Play(s); got != "mark 9223372036854775807\npart 0 2 0 -9223372036854775808\nend 9223372036854775807 0 0\n" {
		t.Errorf("Play of a rule with what it doesn't go by = %q", got)
	}
}

// played: what Play should answer, by the model.
func played(s report.Script) string {
	m, all, e := model.New(s.Config, s.Logs...)
	if e != api.OK {
		return fmt.Sprintf("error %d\n", int(e))
	}
	for _, c := range s.Choices {
		next, l := m.Do(c)
		m, all = next, slices.Concat(all, l)
	}
	text := event.Text(all...)
	lates := strings.Count("\n"+text, "\nlate ")
	for i, p := range m.Parts {
		text += fmt.Sprintf("part %d %d %d %d\n", i, p.Is, p.Read, p.Mark())
	}
	return text + fmt.Sprintf("end %d %d %d\n", m.Now, m.Clock, lates)
}

// scripts: some by chance, most of which can be played.
func scripts(many int) []report.Script {
	r := rand.New(rand.NewSource(26))
	var l []report.Script
	for range many {
		s := report.Script{Config: api.Config{Timeout: r.Intn(20), Drift: []int{0, 3, 20, api.Most}[r.Intn(4)]}}
		for range r.Intn(5) {
			s.Config.Rules = append(s.Config.Rules, []api.Rule{{Bound: r.Intn(4)}, {Kind: api.Marked, Sign: '!'}, {Kind: api.Percent, Percent: r.Intn(101), Window: 1 + r.Intn(3)}}[r.Intn(3)])
			var records []api.Record
			for range r.Intn(6) {
				records = append(records, api.Record{Kind: 1 + r.Intn(2), Time: r.Intn(30), Text: []string{"", "a", "!\n", "\xff\""}[r.Intn(4)]})
			}
			s.Logs = append(s.Logs, logOf(records...)+[]string{"", "", "\x01", "\x80", "\x03\x01"}[r.Intn(5)])
		}
		if r.Intn(20) == 0 {
			s.Logs = s.Logs[:len(s.Logs)/2]
		}
		for range r.Intn(50) {
			x := choice.Poll(r.Intn(6) - 1)
			if r.Intn(5) == 0 {
				x = choice.Tick(r.Intn(12) - 1)
			}
			s.Choices = append(s.Choices, x)
		}
		l = append(l, s)
	}
	return l
}

// P26.1, P26.2: by chance.
func TestByChance(t *testing.T) {
	for _, s := range scripts(1500) {
		checkTold(t, s)
		checkPlay(t, s, played(s))
	}
}

// P1: Scripts of any numbers: each call ends, and none panics.
func TestWrongScripts(t *testing.T) {
	numbers := []int{api.Least, -4097, -1, 0, 1, 2, 5, 4096, 4097, 1 << 32, api.Most}
	r := rand.New(rand.NewSource(261))
	number := func() int { return numbers[r.Intn(len(numbers))] }
	for range 20000 {
		s := report.Script{Config: api.Config{Timeout: number(), Drift: number()}}
		for range r.Intn(3) {
			s.Config.Rules = append(s.Config.Rules, api.Rule{Kind: r.Intn(5) - 1, Bound: number(), Percent: number(), Window: number(), Sign: number()})
			s.Logs = append(s.Logs, []string{"", "\x01", times(number(), number())}[r.Intn(3)])
		}
		for range r.Intn(5) {
			s.Choices = append(s.Choices, api.Choice{Tick: r.Intn(2) == 0, N: number()})
		}
		if got := report.Play(s); got != played(s) {
			t.Fatalf("Play of %+v = %q, want %q", s, got, played(s))
		}
		report.Run(report.Print(s))
	}
}

// P2: what is handed in stays as it is, its spare room, too, and isn't kept; what is answered is new memory.
func TestMemory(t *testing.T) {
	bytes := []byte(goodText)
	text := unsafe.String(&bytes[0], len(bytes))
	a, _ := report.Parse(text)
	b, _ := report.Parse(text)
	a.Config.Rules[0], a.Logs[0], a.Choices[0] = api.Rule{Kind: 7}, "other", choice.Tick(77)
	_ = append(append(a.Config.Rules, api.Rule{}), api.Rule{})
	if string(bytes) != goodText {
		t.Error("the text has been changed")
	}
	clear(bytes)
	if !same(b, good()) {
		t.Errorf("what was read has become %+v", b)
	}

	s := good()
	s.Config.Rules = append(s.Config.Rules, api.Rule{Kind: 77})[:3]
	s.Logs = append(s.Logs, "spare")[:3]
	s.Choices = append(s.Choices, choice.Tick(77))[:4]
	first, second := report.Print(s), report.Play(s)
	if report.Print(s) != first || report.Play(s) != second || !same(s, good()) || s.Config.Rules[:4][3].Kind != 77 || s.Logs[:4][3] != "spare" || s.Choices[:5][4] != choice.Tick(77) {
		t.Errorf("the Script has become %+v", s)
	}
}

// P26.1, P26.2: many lines are gone through once.
func TestMany(t *testing.T) {
	const many = 4096
	s := report.Script{Config: api.Config{Rules: slices.Repeat([]api.Rule{{Kind: api.Percent, Percent: 50, Window: 3}}, many), Timeout: 1}, Logs: slices.Repeat([]string{""}, many), Choices: slices.Repeat([]api.Choice{choice.Poll(0)}, 1<<17)}
	checkTold(t, s)
	want := "mark 9223372036854775807\n"
	for i := range many {
		want += fmt.Sprintf("part %d 2 0 -9223372036854775808\n", i)
	}
	checkPlay(t, s, want+"end 9223372036854775807 0 0\n")
}

// P1, P26.1, P26.2: any text.
func FuzzRun(f *testing.F) {
	f.Add(goodText)
	f.Add("")
	for _, s := range scripts(20) {
		f.Add(report.Print(s))
	}
	f.Fuzz(func(t *testing.T, text string) {
		checkParse(t, text)
		s, bad := report.Parse(text)
		if bad == 0 && len(text) < 1<<11 {
			checkPlay(t, s, played(s))
		}
	})
}
