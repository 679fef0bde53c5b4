package model_test

import (
	"encoding/binary"
	"fmt"
	"math/rand"
	"reflect"
	"slices"
	"testing"
	"unsafe"

	"tidewaiter/api"
	"tidewaiter/choice"
	"tidewaiter/config"
	"tidewaiter/event"
	"tidewaiter/idle"
	"tidewaiter/log"
	"tidewaiter/model"
	"tidewaiter/sat"
	"tidewaiter/source"
)

// at: a record of a time. said: one that says how far time has come.
func at(time int) api.Record { return api.Record{Kind: api.Data, Time: time} }

func said(time int) api.Record { return api.Record{Kind: api.Punct, Time: time} }

// row: records of these times.
func row(l ...int) []api.Record {
	var records []api.Record
	for _, n := range l {
		records = append(records, at(n))
	}
	return records
}

// logOf: a log of records.
func logOf(l ...api.Record) string {
	s, e := log.Build(l...)
	if e != api.OK {
		panic(e)
	}
	return s
}

func times(l ...int) string { return logOf(row(l...)...) }

// el, late: a record of a time that comes out of a partition, on time, or late. mark, fault: likewise.
func el(part, time int) event.Event { return event.Element{Part: part, Record: at(time)} }

func late(part, time int) event.Event {
	return event.Element{Part: part, Record: at(time), Late: true}
}

func mark(at int) event.Event { return event.Mark{At: at} }

func fault(part int, e api.Errno) event.Event { return event.Fault{Part: part, Err: e} }

// bound: rules of so many partitions, each of that bound.
func bound(bound, parts int) []api.Rule {
	return slices.Repeat([]api.Rule{{Kind: api.Bounded, Bound: bound}}, parts)
}

// numbers: of partitions, ticks, and all fields that anyone may fill in.
var numbers = []int{api.Least, api.Least + 1, -1 << 32, -4097, -3, -2, -1, 0, 1, 2, 3, 4, 5, 100, 4096, 4097, 1 << 32, 1<<32 + 1, api.Most - 1, api.Most}

// begin: a State that should be as this one, and what should come out at the beginning.
func begin(t *testing.T, c api.Config, logs []string, want model.State, out ...event.Event) model.State {
	t.Helper()
	s, l, e := model.New(c, logs...)
	if e != api.OK {
		t.Fatalf("New(%+v) = %v", c, e)
	}
	hold(t, s, want)
	if !slices.Equal(l, out) {
		t.Fatalf("New:\n%swant\n%s", event.Text(l...), event.Text(out...))
	}
	return s
}

// do: what should come out by a choice; the State ahead of it stays what it was.
func do(t *testing.T, s model.State, c api.Choice, want ...event.Event) model.State {
	t.Helper()
	was := copied(s)
	next, l := s.Do(c)
	if !slices.Equal(l, want) {
		t.Fatalf("%s:\n%swant\n%s", choice.Line(c), event.Text(l...), event.Text(want...))
	}
	hold(t, s, was)
	return next
}

// hold holds a State against what it should be; lists without items are like ones.
func hold(t *testing.T, s, want model.State) {
	t.Helper()
	if got, want := fmt.Sprintf("%+v", s), fmt.Sprintf("%+v", want); got != want {
		t.Fatalf("the State is\n%s\nwant\n%s", got, want)
	}
}

// copied: a like State that shares nothing.
func copied(s model.State) model.State {
	s.Config.Rules = slices.Clone(s.Config.Rules)
	s.Parts = slices.Clone(s.Parts)
	for i := range s.Parts {
		s.Parts[i].Records = slices.Clone(s.Parts[i].Records)
	}
	return s
}

// with: a State, but for one of its partitions, its clock, and how far time has come.
func with(s model.State, i, read, is, deadline, clock, now int) model.State {
	s = copied(s)
	s.Parts[i].Read, s.Parts[i].Is, s.Parts[i].Deadline = read, is, deadline
	s.Clock, s.Now = clock, now
	return s
}

// P24.2: the document's example.
func TestTheDocumentsExample(t *testing.T) {
	c := api.Config{Rules: bound(0, 1), Timeout: 4}
	begin(t, c, []string{""}, model.State{
		Config: c,
		Parts:  []model.Part{{Rule: c.Rules[0], Is: idle.Ended, Deadline: 4}},
		Now:    api.Most,
	}, mark(api.Most))
}

// P24.1: of each rule, behind each record.
func TestMark(t *testing.T) {
	text := func(time int, text string) api.Record { return api.Record{Kind: api.Data, Time: time, Text: text} }
	for _, x := range []struct {
		r    api.Rule
		l    []api.Record
		want []int
	}{
		{api.Rule{}, nil, []int{api.Never}},
		{api.Rule{Bound: 3}, row(10, 8, 12, 11, 20), []int{api.Never, 6, 6, 8, 8, 16}},
		{api.Rule{Bound: api.Most}, row(10, api.Least, api.Most), []int{api.Never, 10 - api.Most - 1, 10 - api.Most - 1, -1}},
		{api.Rule{Kind: api.Marked, Sign: '!'}, []api.Record{at(9), text(4, "b!"), said(3), said(5), text(99, "?")}, []int{api.Never, api.Never, 4, 4, 5, 5}},
		{api.Rule{Kind: api.Marked, Sign: '?'}, []api.Record{at(9), text(4, "b!"), said(3), said(5), text(99, "?")}, []int{api.Never, api.Never, api.Never, 3, 5, 99}},
		{api.Rule{Kind: api.Percent, Percent: 100, Window: 2}, row(10, 8, 11, 12), []int{api.Never, 9, 9, 9, 11}},
		{api.Rule{Kind: api.Percent, Percent: 0, Window: 2}, row(10, 8, 11, 12), []int{api.Never, 9, 9, 10, 11}},
	} {
		for read, want := range x.want {
			// What it is, why there are no more, and until when it is heard of, doesn't matter.
			for _, p := range []model.Part{{}, {Err: api.ErrSum, Is: idle.Failed, Deadline: 7}, {Is: idle.Idle}} {
				p.Rule, p.Records, p.Read = x.r, x.l, read
				if got := p.Mark(); got != want || p.Mark() != want {
					t.Errorf("%+v: Mark behind %d = %d, want %d", x.r, read, got, want)
				}
			}
		}
	}
}

// P24.2: the first error of those that there are, and nothing beside it.
func TestNewErrors(t *testing.T) {
	wrong := []api.Rule{{Kind: 3}, {Bound: -1}}
	for i, x := range []struct {
		c    api.Config
		logs int
		e    api.Errno
	}{
		{api.Config{}, 0, api.ErrCount},
		{api.Config{Timeout: 1}, 1, api.ErrCount},
		{api.Config{Rules: bound(0, config.MaxParts+1), Timeout: 1}, config.MaxParts + 1, api.ErrCount},
		{api.Config{Rules: bound(0, 2)}, 1, api.ErrRange},
		{api.Config{Rules: bound(0, 2), Timeout: api.Least}, 2, api.ErrRange},
		{api.Config{Rules: bound(0, 2), Timeout: 1, Drift: -1}, 0, api.ErrRange},
		{api.Config{Rules: wrong}, 2, api.ErrRange},
		{api.Config{Rules: wrong, Timeout: 1}, 2, api.ErrKind},
		{api.Config{Rules: wrong[1:], Timeout: 1}, 2, api.ErrRange},
		{api.Config{Rules: bound(0, 1), Timeout: 1}, 0, api.ErrCount},
		{api.Config{Rules: bound(0, 1), Timeout: 1}, 2, api.ErrCount},
		{api.Config{Rules: bound(0, 3), Timeout: 1}, 2, api.ErrCount},
	} {
		logs := slices.Repeat([]string{times(3) + "\x01"}, x.logs)
		s, l, e := model.New(x.c, logs...)
		if e != x.e || len(l) > 0 || !reflect.DeepEqual(s, model.State{}) {
			t.Errorf("%d: New = %+v, %v, %v, want %v", i, s, l, e, x.e)
		}
		if l, e := model.Play(x.c, logs, choice.Poll(0), choice.Tick(1)); len(l) > 0 || e != x.e {
			t.Errorf("%d: Play = %v, %v, want %v", i, l, e, x.e)
		}
	}
}

// P24.2: records and errors of all logs, and what they are by these.
func TestNew(t *testing.T) {
	c := api.Config{Rules: append(bound(1, 3), api.Rule{Kind: api.Marked, Sign: '!'}), Timeout: 6, Drift: 2}
	begin(t, c, []string{"", "\x01", times(7, 5) + "\x80", times(9)}, model.State{
		Config: c,
		Parts: []model.Part{
			{Rule: c.Rules[0], Is: idle.Ended, Deadline: 6},
			{Rule: c.Rules[1], Err: api.ErrLength, Is: idle.Failed, Deadline: 6},
			{Rule: c.Rules[2], Records: row(7, 5), Err: api.ErrShort, Deadline: 6},
			{Rule: c.Rules[3], Records: row(9), Deadline: 6},
		},
		Now: api.Never,
	}, fault(1, api.ErrLength))
	c.Timeout = api.Most
	begin(t, c, []string{"\x05", "", "", "\x80\x00"}, model.State{
		Config: c,
		Parts: []model.Part{
			{Rule: c.Rules[0], Err: api.ErrShort, Is: idle.Failed, Deadline: api.Most},
			{Rule: c.Rules[1], Is: idle.Ended, Deadline: api.Most},
			{Rule: c.Rules[2], Is: idle.Ended, Deadline: api.Most},
			{Rule: c.Rules[3], Err: api.ErrVarint, Is: idle.Failed, Deadline: api.Most},
		},
		Now: api.Most,
	}, fault(0, api.ErrShort), fault(3, api.ErrVarint), mark(api.Most))
}

// P24.2: all that a State tells, choice by choice.
func TestDo(t *testing.T) {
	c := api.Config{Rules: bound(0, 2), Timeout: 3, Drift: 5}
	s, _, e := model.New(c, times(10, 4, 20), times(6, 30)+"\x01")
	if e != api.OK {
		t.Fatal(e)
	}
	want := s
	for i, x := range []struct {
		c    api.Choice
		out  []event.Event
		want func(model.State) model.State
	}{
		{choice.Tick(1), nil, func(s model.State) model.State { return with(s, 0, 0, idle.Active, 3, 1, api.Never) }},
		{choice.Poll(0), []event.Event{el(0, 10)}, func(s model.State) model.State { return with(s, 0, 1, idle.Active, 4, 1, api.Never) }},
		{choice.Poll(0), nil, nil},
		{choice.Poll(2), nil, nil},
		{choice.Poll(-1), nil, nil},
		{choice.Tick(-1), nil, nil},
		{choice.Tick(0), nil, nil},
		{choice.Tick(2), []event.Event{mark(9)}, func(s model.State) model.State { return with(s, 1, 0, idle.Idle, 3, 3, 9) }},
		{choice.Poll(0), []event.Event{late(0, 4)}, func(s model.State) model.State { return with(s, 0, 2, idle.Active, 6, 3, 9) }},
		{choice.Poll(1), []event.Event{late(1, 6)}, func(s model.State) model.State { return with(s, 1, 1, idle.Active, 6, 3, 9) }},
		{choice.Tick(3), nil, func(s model.State) model.State {
			return with(with(s, 0, 2, idle.Idle, 6, 6, 9), 1, 1, idle.Idle, 6, 6, 9)
		}},
		{choice.Poll(0), []event.Event{el(0, 20)}, func(s model.State) model.State { return with(s, 0, 3, idle.Ended, 9, 6, 9) }},
		{choice.Poll(0), nil, nil},
		{choice.Tick(api.Most), nil, func(s model.State) model.State { return with(s, 0, 3, idle.Ended, 9, api.Most, 9) }},
		{choice.Poll(1), []event.Event{el(1, 30), fault(1, api.ErrLength), mark(api.Most)}, func(s model.State) model.State {
			return with(s, 1, 2, idle.Failed, api.Most, api.Most, api.Most)
		}},
		{choice.Poll(1), nil, nil},
		{choice.Tick(5), nil, nil},
	} {
		if x.want != nil {
			want = x.want(want)
		}
		t.Log(i, choice.Line(x.c))
		s = do(t, s, x.c, x.out...)
		hold(t, s, want)
	}
}

// P24.2: who is further ahead than may be is refused, also while nothing is known; who is at the limit isn't.
func TestRefused(t *testing.T) {
	check := func(s model.State, want ...bool) {
		t.Helper()
		for i, r := range want {
			if s.Refused(i) != r {
				t.Fatalf("Refused(%d) = %v", i, !r)
			}
		}
		for _, i := range numbers {
			if (i < 0 || i >= len(want)) && !s.Refused(i) {
				t.Fatalf("Refused(%d) of %d = false", i, len(want))
			}
		}
	}
	s, _, _ := model.New(api.Config{Rules: bound(0, 4), Timeout: 9, Drift: 5}, times(10, 11), times(4, 5, 6), "", "\x01")
	check(s, false, false, true, true)
	s = do(t, s, choice.Poll(0), el(0, 10))
	check(s, true, false, true, true)
	s = do(t, s, choice.Poll(1), el(1, 4), mark(3))
	check(s, true, false, true, true)
	s = do(t, s, choice.Poll(1), el(1, 5), mark(4))
	check(s, false, false, true, true)
	s = do(t, s, choice.Poll(0), el(0, 11))
	check(s, true, false, true, true)
	s = do(t, s, choice.Poll(1), el(1, 6), mark(api.Most))
	check(s, true, true, true, true)

	s, _, _ = model.New(api.Config{Rules: bound(0, 2), Timeout: 9, Drift: api.Most}, times(0, 1, 2), times(3))
	check(s, false, false)
	s = do(t, s, choice.Poll(0), el(0, 0))
	check(s, false, false)
	s = do(t, s, choice.Poll(0), el(0, 1))
	check(s, true, false)
	s = do(t, s, choice.Poll(1), el(1, 3), mark(0))
	check(s, false, true)
}

// spoil: all of a State that it may not share is another thing, its spare room, too.
func spoil(s model.State) {
	for _, l := range [][]api.Rule{s.Config.Rules, s.Config.Rules[len(s.Config.Rules):cap(s.Config.Rules)]} {
		for i := range l {
			l[i] = api.Rule{Kind: 77}
		}
	}
	for _, l := range [][]model.Part{s.Parts, s.Parts[len(s.Parts):cap(s.Parts)]} {
		for i := range l {
			l[i] = model.Part{Is: 77}
		}
	}
}

// P2, P24.2: what is handed in isn't kept, nor changed; States share nothing but Records, whichever is another one's.
func TestMemory(t *testing.T) {
	c := api.Config{Rules: bound(0, 2), Timeout: 3, Drift: 1000}
	bytes := []byte(times(5, 6))
	logs := []string{unsafe.String(&bytes[0], len(bytes)), times(7), "spare"}
	s, _, e := model.New(c, logs[:2]...)
	if e != api.OK || logs[2] != "spare" || logs[0] != times(5, 6) || logs[1] != times(7) || !slices.Equal(c.Rules, bound(0, 2)) {
		t.Fatal("New", e, logs)
	}
	was := copied(s)
	clear(c.Rules)
	c.Rules[0].Kind = 7
	clear(logs)
	clear(bytes)
	hold(t, s, was)

	// A refused choice, one that is none, and those that do something.
	for _, x := range []api.Choice{choice.Poll(9), choice.Tick(-1), choice.Tick(0), choice.Tick(5), choice.Poll(0), choice.Poll(1)} {
		next, l := s.Do(x)
		again, _ := s.Do(x)
		want := copied(next)
		for i := range l {
			l[i] = fault(8, 8)
		}
		spoil(again)
		hold(t, s, was)
		hold(t, next, want)
		spoil(next)
		hold(t, s, was)
		mine := copied(s)
		next, _ = mine.Do(x)
		spoil(mine)
		hold(t, next, want)
	}
}

// P24.2: one State may go on in many ways, and again in the same.
func TestStatesAreApart(t *testing.T) {
	s, _, _ := model.New(api.Config{Rules: bound(0, 2), Timeout: 3, Drift: 1000}, times(5, 6), times(7))
	for range 2 {
		a := do(t, s, choice.Poll(0), el(0, 5))
		b := do(t, s, choice.Poll(1), el(1, 7))
		do(t, a, choice.Poll(1), el(1, 7), mark(4))
		do(t, b, choice.Tick(3))
		b = do(t, b, choice.Poll(0), el(0, 5), mark(4))
		do(t, b, choice.Poll(0), el(0, 6), mark(api.Most))
		do(t, a, choice.Tick(3))
	}
}

// P1: Parts and States of any numbers: each call ends, and none panics (what is answered isn't promised).
func TestWrongStates(t *testing.T) {
	r := rand.New(rand.NewSource(24))
	number := func() int { return numbers[r.Intn(len(numbers))] }
	rule := func() api.Rule {
		return api.Rule{Kind: r.Intn(5) - 1, Bound: number(), Percent: number(), Window: number(), Sign: number()}
	}
	for range 30000 {
		s := model.State{Config: api.Config{Timeout: number(), Drift: number()}, Clock: number(), Now: number()}
		for range r.Intn(4) {
			s.Config.Rules = append(s.Config.Rules, rule())
		}
		for range r.Intn(4) {
			p := model.Part{Rule: rule(), Err: api.Errno(number()), Read: number(), Is: number(), Deadline: number()}
			for range r.Intn(4) {
				p.Records = append(p.Records, api.Record{Kind: number(), Time: number()})
			}
			p.Mark()
			s.Parts = append(s.Parts, p)
		}
		was := copied(s)
		for range 5 {
			s.Refused(number())
			s.Do(api.Choice{Tick: r.Intn(2) == 0, N: number()})
		}
		hold(t, s, was)
	}
	var none model.State
	for _, n := range numbers {
		none.Refused(n)
		none.Do(choice.Poll(n))
		none.Do(choice.Tick(n))
	}
	model.Part{}.Mark()
}

// lead reads numbers from bytes; behind their end all are 0.
type lead struct{ b []byte }

func (l *lead) below(n int) int {
	if len(l.b) == 0 {
		return 0
	}
	b := l.b[0]
	l.b = l.b[1:]
	return int(b) % n
}

// scene: a Config that can be, logs and choices, by what bytes say.
func scene(b []byte) (api.Config, []string, []api.Choice) {
	l := &lead{b}
	c := api.Config{
		Timeout: []int{1, 2, 3, 5, 8, api.Most}[l.below(6)],
		Drift:   []int{0, 1, 2, 5, 10, 40, 1 << 62, api.Most - 1, api.Most}[l.below(9)],
	}
	var logs []string
	for range 1 + l.below(4) {
		c.Rules = append(c.Rules, []api.Rule{
			{Kind: api.Bounded, Bound: []int{0, 1, 2, 7, api.Most}[l.below(5)]},
			{Kind: api.Marked, Sign: '!'},
			{Kind: api.Percent, Percent: []int{0, 50, 99, 100}[l.below(4)], Window: 1 + l.below(4)},
		}[l.below(3)])
		logs = append(logs, logBy(l))
	}
	var choices []api.Choice
	for len(l.b) > 0 {
		x := choice.Poll(l.below(len(logs)+2) - 1)
		switch l.below(16) {
		case 0:
			x = choice.Tick(l.below(10) - 1)
		case 1:
			x = choice.Tick(l.below(3))
		case 2:
			x = choice.Tick([]int{api.Most, api.Most - 1, api.Least}[l.below(3)])
		}
		choices = append(choices, x)
	}
	return c, logs, choices
}

// logBy: a log, with something behind it that is no record, or not.
func logBy(l *lead) string {
	start := []int{0, -100, api.Least, api.Most - 40}[l.below(4)]
	var records []api.Record
	for range l.below(12) {
		records = append(records, api.Record{
			Kind: []int{api.Data, api.Data, api.Data, api.Punct}[l.below(4)],
			Time: sat.Add(start, l.below(48)),
			Text: []string{"", "a", "!", "\xff"}[l.below(4)],
		})
	}
	return logOf(records...) + []string{"", "", "", "\x01", "\x80", "\x80\x00", "\x03\x01", "\x02\x01\x00abcd"}[l.below(8)]
}

// tells: a State is as a Source.
func tells(t *testing.T, s *source.Source, m model.State) {
	t.Helper()
	for i, p := range m.Parts {
		if s.Status(i) != p.Is || s.Count(i) != p.Read || s.Mark(i) != p.Mark() || s.Refused(i) != m.Refused(i) {
			t.Fatalf("of %d: Status %d, Count %d, Mark %d, Refused %v; the State: %+v, Mark %d, Refused %v", i, s.Status(i), s.Count(i), s.Mark(i), s.Refused(i), p, p.Mark(), m.Refused(i))
		}
	}
	for _, i := range []int{-1, len(m.Parts)} {
		if s.Status(i) != -1 || !s.Refused(i) || !m.Refused(i) {
			t.Fatalf("there is a partition %d of %d", i, len(m.Parts))
		}
	}
	if s.Now() != m.Now || s.Time() != m.Clock {
		t.Fatalf("Now %d, Time %d; the State: %d, %d", s.Now(), s.Time(), m.Now, m.Clock)
	}
}

// checkScene: step by step, the State is as the Source, the same comes out of both, and deadlines are those of the last reading.
func checkScene(t *testing.T, c api.Config, logs []string, choices []api.Choice) {
	t.Helper()
	s, e := source.New(c, logs...)
	m, all, f := model.New(c, logs...)
	if e != api.OK || f != api.OK || !slices.Equal(all, s.Begin()) {
		t.Fatalf("New = %v, %v\n%sthe State:\n%s", e, f, event.Text(s.Begin()...), event.Text(all...))
	}
	tells(t, s, m)
	deadlines := slices.Repeat([]int{c.Timeout}, len(logs))
	for _, x := range choices {
		read := !x.Tick && !s.Refused(x.N)
		was := copied(m)
		next, l := m.Do(x)
		if got := s.Do(x); !slices.Equal(got, l) {
			t.Fatalf("%s behind\n%s:\n%sthe State:\n%s", choice.Line(x), event.Text(all...), event.Text(got...), event.Text(l...))
		}
		hold(t, m, was)
		m, all = next, slices.Concat(all, l)
		tells(t, s, m)
		if read {
			deadlines[x.N] = sat.Add(s.Time(), c.Timeout)
		}
		for i, p := range m.Parts {
			if p.Deadline != deadlines[i] {
				t.Fatalf("the Deadline of %d is %d, want %d", i, p.Deadline, deadlines[i])
			}
		}
	}
	a, e := source.Play(c, logs, choices...)
	b, f := model.Play(c, logs, choices...)
	if !slices.Equal(s.Events(), all) || !slices.Equal(a, all) || !slices.Equal(b, all) || e != api.OK || f != api.OK {
		t.Fatalf("Play = %v, %v:\n%sthe State:\n%s", e, f, event.Text(a...), event.Text(b...))
	}
}

// P23.1 to P23.4, P24.2: by chance.
func TestAsSource(t *testing.T) {
	r := rand.New(rand.NewSource(2))
	for range 1500 {
		b := make([]byte, r.Intn(400))
		r.Read(b)
		c, logs, choices := scene(b)
		checkScene(t, c, logs, choices)
	}
}

// P1, P23.1 to P23.4, P24.2: by bytes that a fuzzer tries.
func FuzzAsSource(f *testing.F) {
	f.Add([]byte{})
	f.Add(binary.BigEndian.AppendUint64(nil, 0x0102030405060708))
	f.Add([]byte("three logs, and polls and ticks by whatever these bytes happen to say of them"))
	f.Fuzz(func(t *testing.T, b []byte) {
		if len(b) > 1<<10 {
			return
		}
		c, logs, choices := scene(b)
		checkScene(t, c, logs, choices)
	})
}

// P1, P24.2: any bytes as a log.
func FuzzLogs(f *testing.F) {
	s := times(5, 3, 9)
	f.Add(s, "")
	f.Add(s+"\x01", s[:len(s)-1])
	f.Fuzz(func(t *testing.T, a, b string) {
		if len(a)+len(b) > 1<<10 {
			return
		}
		c := api.Config{Rules: []api.Rule{{}, {Kind: api.Percent, Percent: 50, Window: 3}}, Timeout: 2, Drift: 4}
		choices := append(choice.Round(2, 3), choice.Tick(1), choice.Poll(0), choice.Tick(1))
		checkScene(t, c, []string{a, b}, append(choices, choice.Round(2, 10)...))
	})
}
