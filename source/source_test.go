package source_test

import (
	"fmt"
	"math/rand"
	"slices"
	"strings"
	"testing"
	"unsafe"

	"tidewaiter/api"
	"tidewaiter/choice"
	"tidewaiter/config"
	"tidewaiter/event"
	"tidewaiter/frame"
	"tidewaiter/idle"
	"tidewaiter/log"
	"tidewaiter/sat"
	"tidewaiter/source"
)

// at: a record of a time. said: one that says how far time has come.
func at(time int) api.Record { return api.Record{Kind: api.Data, Time: time} }

func said(time int) api.Record { return api.Record{Kind: api.Punct, Time: time} }

// logOf: a log of records. times: one of records of these times.
func logOf(l ...api.Record) string {
	s, e := log.Build(l...)
	if e != api.OK {
		panic(e)
	}
	return s
}

func times(l ...int) string {
	var records []api.Record
	for _, n := range l {
		records = append(records, at(n))
	}
	return logOf(records...)
}

// el, late: a record of a time that comes out of a partition, on time, or late. mark, fault: likewise.
func el(part, time int) event.Event { return event.Element{Part: part, Record: at(time)} }

func late(part, time int) event.Event {
	return event.Element{Part: part, Record: at(time), Late: true}
}

func mark(at int) event.Event { return event.Mark{At: at} }

func fault(part int, e api.Errno) event.Event { return event.Fault{Part: part, Err: e} }

// bound: rules of so many partitions, each of that bound.
func bound(bound, parts int) []api.Rule {
	return slices.Repeat([]api.Rule{{Kind: api.Bounded, Bound: bound}}, parts)
}

// beside: partitions that there aren't among n.
func beside(n int) []int {
	return []int{api.Least, api.Least + 1, -n - 1, -n, -2, -1, n, n + 1, 1 << 20, 1 << 32, 1<<32 + 1, api.Most - 1, api.Most}
}

// scene is a source, how many partitions it should have, and what should have come out of it.
type scene struct {
	t          *testing.T
	s          *source.Source
	parts      int
	begin, all []event.Event
}

// begin: a source that can be, and what should come out at the beginning.
func begin(t *testing.T, c api.Config, logs []string, want ...event.Event) *scene {
	t.Helper()
	s, e := source.New(c, logs...)
	if s == nil || e != api.OK {
		t.Fatalf("New(%+v) = %v, %v", c, s, e)
	}
	x := &scene{t: t, s: s, parts: len(logs), begin: want, all: want}
	x.check()
	return x
}

// check: what came out at the beginning, and all that did; twice, as asking changes nothing.
func (x *scene) check() {
	x.t.Helper()
	for range 2 {
		if got := x.s.Begin(); !slices.Equal(got, x.begin) {
			x.t.Fatalf("Begin:\n%swant\n%s", event.Text(got...), event.Text(x.begin...))
		}
		if got := x.s.Events(); !slices.Equal(got, x.all) {
			x.t.Fatalf("Events:\n%swant\n%s", event.Text(got...), event.Text(x.all...))
		}
	}
}

// told: all that a source tells of itself, but its events.
func (x *scene) told() string {
	var b strings.Builder
	for i := -1; i <= x.parts; i++ {
		fmt.Fprintln(&b, i, x.s.Status(i), x.s.Count(i), x.s.Mark(i), x.s.Refused(i))
	}
	fmt.Fprintln(&b, x.s.Now(), x.s.Time(), x.s.Over())
	return b.String()
}

// do: a choice, and what should come out by it.
func (x *scene) do(c api.Choice, want ...event.Event) {
	x.t.Helper()
	if got := x.s.Do(c); !slices.Equal(got, want) {
		x.t.Fatalf("behind\n%s%s:\n%swant\n%s", event.Text(x.all...), choice.Line(c), event.Text(got...), event.Text(want...))
	}
	x.all = slices.Concat(x.all, want)
	x.check()
}

func (x *scene) poll(i int, want ...event.Event) { x.t.Helper(); x.do(choice.Poll(i), want...) }

func (x *scene) tick(by int, want ...event.Event) { x.t.Helper(); x.do(choice.Tick(by), want...) }

// nothing: a choice by which nothing comes out, and nothing is changed.
func (x *scene) nothing(c api.Choice) {
	x.t.Helper()
	was := x.told()
	x.do(c)
	if is := x.told(); is != was {
		x.t.Fatalf("by %s from\n%sto\n%s", choice.Line(c), was, is)
	}
}

// refused: a partition that is refused, and by whose poll nothing comes.
func (x *scene) refused(i int) {
	x.t.Helper()
	if !x.s.Refused(i) {
		x.t.Fatalf("the partition %d isn't refused", i)
	}
	x.nothing(choice.Poll(i))
}

// part: what is told of a partition.
func (x *scene) part(i, status, count, mark int, refused bool) {
	x.t.Helper()
	for range 2 {
		if s := x.s; s.Status(i) != status || s.Count(i) != count || s.Mark(i) != mark || s.Refused(i) != refused {
			x.t.Fatalf("of %d: Status %d, Count %d, Mark %d, Refused %v, want %d, %d, %d, %v", i, s.Status(i), s.Count(i), s.Mark(i), s.Refused(i), status, count, mark, refused)
		}
	}
}

// is: what is told of all.
func (x *scene) is(now, time int, over bool) {
	x.t.Helper()
	for range 2 {
		if s := x.s; s.Now() != now || s.Time() != time || s.Over() != over {
			x.t.Fatalf("Now %d, Time %d, Over %v, want %d, %d, %v", s.Now(), s.Time(), s.Over(), now, time, over)
		}
	}
}

// noSuch: partitions that there aren't.
func (x *scene) noSuch() {
	x.t.Helper()
	for _, i := range beside(x.parts) {
		x.part(i, -1, 0, 0, true)
		x.refused(i)
	}
}

// P23.1, P23.2: the document's example.
func TestTheDocumentsExample(t *testing.T) {
	x := begin(t, api.Config{Rules: bound(0, 1), Timeout: 1}, []string{""}, mark(api.Most))
	x.part(0, idle.Ended, 0, api.Never, true)
	x.is(api.Most, 0, true)
	x.refused(0)
	x.noSuch()
}

// P23.2: the first error of those that there are.
func TestNewErrors(t *testing.T) {
	wrong := []api.Rule{{Kind: 3}, {Bound: -1}}
	for i, x := range []struct {
		c    api.Config
		logs int
		e    api.Errno
	}{
		{api.Config{}, 0, api.ErrCount},
		{api.Config{}, 1, api.ErrCount},
		{api.Config{Timeout: 1}, 0, api.ErrCount},
		{api.Config{Rules: bound(0, config.MaxParts+1), Timeout: 1}, config.MaxParts + 1, api.ErrCount},
		{api.Config{Rules: bound(0, 2)}, 2, api.ErrRange},
		{api.Config{Rules: bound(0, 2)}, 1, api.ErrRange},
		{api.Config{Rules: bound(0, 2), Timeout: -1}, 2, api.ErrRange},
		{api.Config{Rules: bound(0, 2), Timeout: api.Least}, 2, api.ErrRange},
		{api.Config{Rules: bound(0, 2), Timeout: 1, Drift: -1}, 2, api.ErrRange},
		{api.Config{Rules: bound(0, 2), Timeout: 1, Drift: api.Least}, 0, api.ErrRange},
		{api.Config{Rules: wrong}, 2, api.ErrRange},
		{api.Config{Rules: wrong, Timeout: 1}, 2, api.ErrKind},
		{api.Config{Rules: wrong, Timeout: 1}, 0, api.ErrKind},
		{api.Config{Rules: wrong[1:], Timeout: 1}, 1, api.ErrRange},
		{api.Config{Rules: wrong[1:], Timeout: 1}, 2, api.ErrRange},
		{api.Config{Rules: []api.Rule{{}, {Kind: api.Marked, Sign: -1}}, Timeout: 1}, 2, api.ErrRange},
		{api.Config{Rules: []api.Rule{{}, {Kind: api.Percent}}, Timeout: 1}, 2, api.ErrRange},
		{api.Config{Rules: []api.Rule{{}, {Kind: -1}}, Timeout: 1}, 3, api.ErrKind},
		{api.Config{Rules: bound(0, 1), Timeout: 1}, 0, api.ErrCount},
		{api.Config{Rules: bound(0, 1), Timeout: 1}, 2, api.ErrCount},
		{api.Config{Rules: bound(0, 2), Timeout: 1}, 1, api.ErrCount},
		{api.Config{Rules: bound(0, 2), Timeout: 1}, 3, api.ErrCount},
	} {
		logs := slices.Repeat([]string{times(3)}, x.logs)
		if s, e := source.New(x.c, logs...); s != nil || e != x.e {
			t.Errorf("%d: New = %v, %v, want %v", i, s, e, x.e)
		}
		if l, e := source.Play(x.c, logs, choice.Poll(0), choice.Tick(1)); len(l) > 0 || e != x.e {
			t.Errorf("%d: Play = %v, %v, want %v", i, l, e, x.e)
		}
	}
}

// wrong: what no record begins with, and the error that layer 5's Get has for it.
var wrong = []struct {
	s string
	e api.Errno
}{
	{"\x80", api.ErrShort},
	{"\x05\x01\x81", api.ErrShort},
	{times(5)[:len(times(5))-1], api.ErrShort},
	{"\x80\x00", api.ErrVarint},
	{"\x01", api.ErrLength},
	{times(5)[:len(times(5))-1] + "z", api.ErrSum},
	{"\x02\x03\x00\xb6\xcc\x42\x01", api.ErrSum},
}

// P23.1, P23.2: a fault comes out once, at the beginning, or behind the records ahead of it, and ahead of the mark that it lets come.
func TestFaults(t *testing.T) {
	for _, w := range wrong {
		c := api.Config{Rules: bound(0, 1), Timeout: 3}
		x := begin(t, c, []string{w.s}, fault(0, w.e), mark(api.Most))
		x.part(0, idle.Failed, 0, api.Never, true)
		x.is(api.Most, 0, true)
		x.refused(0)
		x.tick(9)
		x.part(0, idle.Failed, 0, api.Never, true)
		x.is(api.Most, 9, true)

		x = begin(t, c, []string{times(4, 4) + w.s})
		x.part(0, idle.Active, 0, api.Never, false)
		x.poll(0, el(0, 4), mark(3))
		x.part(0, idle.Active, 1, 3, false)
		x.poll(0, el(0, 4), fault(0, w.e), mark(api.Most))
		x.part(0, idle.Failed, 2, 3, true)
		x.is(api.Most, 0, true)
		x.refused(0)
	}
}

// P23.2: partitions are settled from 0 on, and time has come nowhere, while one of them is Active; if all are over, to the end, by one Mark.
func TestBegin(t *testing.T) {
	c := api.Config{Rules: bound(1, 5), Timeout: 1}
	x := begin(t, c, []string{"", "\x01", times(7), "\x05", ""}, fault(1, api.ErrLength), fault(3, api.ErrShort))
	x.part(0, idle.Ended, 0, api.Never, true)
	x.part(1, idle.Failed, 0, api.Never, true)
	x.part(2, idle.Active, 0, api.Never, false)
	x.part(3, idle.Failed, 0, api.Never, true)
	x.part(4, idle.Ended, 0, api.Never, true)
	x.is(api.Never, 0, false)
	x.noSuch()
	for _, i := range []int{0, 1, 3, 4} {
		x.refused(i)
	}
	x.poll(2, el(2, 7), mark(api.Most))
	x.part(2, idle.Ended, 1, 5, true)
	x.is(api.Most, 0, true)

	x = begin(t, c, []string{"", "\x01", "", "\x05", "\x80\x00"}, fault(1, api.ErrLength), fault(3, api.ErrShort), fault(4, api.ErrVarint), mark(api.Most))
	x.is(api.Most, 0, true)
	x = begin(t, c, slices.Repeat([]string{""}, 5), mark(api.Most))
	x.is(api.Most, 0, true)
	x = begin(t, c, slices.Repeat([]string{times(1)}, 5))
	x.is(api.Never, 0, false)
}

// P23.1, P23.3: time has come as far as the least of all that are Active; one that has ended holds nobody back.
func TestMerge(t *testing.T) {
	x := begin(t, api.Config{Rules: bound(2, 2), Timeout: 9, Drift: 1000}, []string{times(10, 9, 20, 40), times(12, 30)})
	x.poll(0, el(0, 10))
	x.part(0, idle.Active, 1, 7, true)
	x.part(1, idle.Active, 0, api.Never, false)
	x.is(api.Never, 0, false)
	// Nothing is known of all: by a drift that isn't far above that nobody may run ahead.
	x.refused(0)
	x.poll(1, el(1, 12), mark(7))
	x.part(0, idle.Active, 1, 7, false)
	x.part(1, idle.Active, 1, 9, false)
	x.poll(0, el(0, 9))
	x.poll(0, el(0, 20), mark(9))
	x.is(9, 0, false)
	x.poll(1, el(1, 30), mark(17))
	x.part(1, idle.Ended, 2, 27, true)
	x.refused(1)
	x.poll(0, el(0, 40), mark(api.Most))
	x.part(0, idle.Ended, 4, 37, true)
	x.is(api.Most, 0, true)
	x.refused(0)
	x.noSuch()
}

// P23.3: late is what isn't above how far time had come ahead of it; what it lets come doesn't matter.
func TestLate(t *testing.T) {
	c := api.Config{Rules: bound(0, 1), Timeout: 1, Drift: api.Most}
	x := begin(t, c, []string{times(5, 5, 4, 3, 6, 5, 7)})
	x.poll(0, el(0, 5), mark(4))
	x.poll(0, el(0, 5))
	x.poll(0, late(0, 4))
	x.poll(0, late(0, 3))
	x.poll(0, el(0, 6), mark(5))
	x.poll(0, late(0, 5))
	x.poll(0, el(0, 7), mark(api.Most))

	// Records that say so are on time themselves, as nothing was said ahead of them; of the same time no more.
	c.Rules = []api.Rule{{Kind: api.Marked, Sign: '!'}}
	x = begin(t, c, []string{logOf(said(7), said(7), at(8), said(9), at(9))})
	x.poll(0, event.Element{Part: 0, Record: said(7)}, mark(7))
	x.poll(0, event.Element{Part: 0, Record: said(7), Late: true})
	x.poll(0, el(0, 8))
	x.poll(0, event.Element{Part: 0, Record: said(9)}, mark(9))
	x.poll(0, late(0, 9), mark(api.Most))
}

// P23.3: that nothing is known is the least number, but what is of that time isn't late by it; nor does it make anything known.
func TestLateAtTheEnds(t *testing.T) {
	c := api.Config{Rules: []api.Rule{{Kind: api.Marked, Sign: 'x'}}, Timeout: 1}
	x := begin(t, c, []string{logOf(at(api.Least), said(api.Least), at(api.Least), said(api.Least+1), at(api.Least), at(api.Least+1), at(api.Least+2), said(api.Most), at(api.Most))})
	x.poll(0, el(0, api.Least))
	x.poll(0, event.Element{Part: 0, Record: said(api.Least)})
	x.poll(0, el(0, api.Least))
	x.is(api.Never, 0, false)
	x.poll(0, event.Element{Part: 0, Record: said(api.Least + 1)}, mark(api.Least+1))
	x.poll(0, late(0, api.Least))
	x.poll(0, late(0, api.Least+1))
	x.poll(0, el(0, api.Least+2))
	x.poll(0, event.Element{Part: 0, Record: said(api.Most)}, mark(api.Most))
	// Time has come to the end, but not all is over; there is no Mark more as it is.
	x.part(0, idle.Active, 8, api.Most, false)
	x.is(api.Most, 0, false)
	x.poll(0, late(0, api.Most))
	x.is(api.Most, 0, true)

	c.Rules = bound(api.Most, 1)
	x = begin(t, c, []string{times(api.Least, 0, api.Most, 0, -1, api.Least)})
	x.poll(0, el(0, api.Least))
	x.poll(0, el(0, 0))
	x.poll(0, el(0, api.Most), mark(-1))
	x.poll(0, el(0, 0))
	x.poll(0, late(0, -1))
	x.poll(0, late(0, api.Least), mark(api.Most))
}

// P23.3: the way of a partition has seen each record of it, late ones, too, and none of others.
func TestWays(t *testing.T) {
	c := api.Config{Rules: []api.Rule{
		{Kind: api.Bounded, Bound: 3},
		{Kind: api.Marked, Sign: '!'},
		{Kind: api.Percent, Percent: 100, Window: 2},
	}, Timeout: 100, Drift: api.Most}
	text := func(time int, text string) api.Record { return api.Record{Kind: api.Data, Time: time, Text: text} }
	shout := event.Element{Part: 1, Record: text(-50, "a!")}
	x := begin(t, c, []string{times(-90, -80, -95, -10), logOf(at(-70), text(-50, "a!"), text(-40, "?"), said(-45)), times(-60, -80, -50, -50)})
	x.poll(0, el(0, -90))
	x.part(0, idle.Active, 1, -94, false)
	x.poll(1, el(1, -70))
	x.part(1, idle.Active, 1, api.Never, false)
	x.poll(1, shout)
	x.part(1, idle.Active, 2, -50, false)
	x.poll(2, el(2, -60), mark(-94))
	x.part(2, idle.Active, 1, -61, false)
	x.poll(2, el(2, -80))
	x.part(2, idle.Active, 2, -61, false)
	x.poll(2, el(2, -50))
	// The lag of 20 is one of the last two still.
	x.part(2, idle.Active, 3, -61, false)
	x.poll(0, el(0, -80), mark(-84))
	x.poll(0, late(0, -95))
	x.part(0, idle.Active, 3, -84, false)
	x.poll(2, el(2, -50))
	x.part(2, idle.Ended, 4, -51, true)
	x.poll(0, el(0, -10), mark(-50))
	x.part(0, idle.Ended, 4, -14, true)
	x.poll(1, event.Element{Part: 1, Record: text(-40, "?")})
	x.poll(1, event.Element{Part: 1, Record: said(-45)}, mark(api.Most))
	x.part(1, idle.Ended, 4, -45, true)
}

// P23.3: the lags of records that were late count, too.
func TestLateOnesAreSeen(t *testing.T) {
	c := api.Config{Rules: []api.Rule{{Kind: api.Percent, Percent: 100, Window: 2}}, Timeout: 1}
	x := begin(t, c, []string{times(100, 90, 105, 106, 120)})
	x.poll(0, el(0, 100), mark(99))
	x.poll(0, late(0, 90))
	x.poll(0, el(0, 105))
	x.part(0, idle.Active, 3, 99, false)
	x.poll(0, el(0, 106), mark(105))
	x.poll(0, el(0, 120), mark(api.Most))
}

// P23.1, P23.2, P23.3: a partition is silent as its timeout is past, since the beginning, or since it was read last; then it holds nobody back, and its records may be late.
func TestSilent(t *testing.T) {
	x := begin(t, api.Config{Rules: bound(0, 2), Timeout: 3, Drift: 1000}, []string{times(5, 95, 96), times(90, 91)})
	x.tick(2)
	x.is(api.Never, 2, false)
	x.poll(1, el(1, 90))
	x.nothing(choice.Tick(-1))
	x.nothing(choice.Tick(api.Least))
	x.nothing(choice.Tick(0))
	x.tick(1, mark(89))
	x.part(0, idle.Idle, 0, api.Never, false)
	x.part(1, idle.Active, 1, 89, false)
	x.is(89, 3, false)
	// It is Active again as it is read, and counts, though it is behind.
	x.poll(0, late(0, 5))
	x.part(0, idle.Active, 1, 4, false)
	x.is(89, 3, false)
	x.tick(2)
	// Of the one nothing was read since 2, of the other since 3.
	x.part(0, idle.Active, 1, 4, false)
	x.part(1, idle.Idle, 1, 89, false)
	x.tick(1)
	x.part(0, idle.Idle, 1, 4, false)
	x.poll(0, el(0, 95), mark(94))
	x.part(0, idle.Active, 2, 94, false)
	x.tick(9)
	x.part(0, idle.Idle, 2, 94, false)
	x.poll(0, el(0, 96))
	// All that aren't over are Idle: the least of these counts, which is behind.
	x.part(0, idle.Ended, 3, 95, true)
	x.part(1, idle.Idle, 1, 89, false)
	x.poll(1, late(1, 91), mark(api.Most))
	x.is(api.Most, 15, true)
}

// P23.3: who is silent by one tick is so for one Mark.
func TestManySilentAtOnce(t *testing.T) {
	x := begin(t, api.Config{Rules: bound(0, 4), Timeout: 2, Drift: api.Most}, []string{times(-9, 1), times(-8, 1), times(-7, 1), times(-6, 1)})
	for i, time := range []int{-9, -8, -7} {
		x.poll(i, el(i, time))
	}
	x.poll(3, el(3, -6), mark(-10))
	x.tick(1)
	x.poll(3, el(3, 1))
	x.part(3, idle.Ended, 2, 0, true)
	// None is Active any more, so that the least of those that are Idle counts, by which time had come so far.
	x.tick(1)
	for i := range 3 {
		x.part(i, idle.Idle, 1, -10+i, false)
	}
	x.is(-10, 2, false)

	x = begin(t, api.Config{Rules: bound(0, 4), Timeout: 2, Drift: api.Most}, []string{times(-9, 1), times(-8, 1), times(-7, 1), times(-6, 1, 2)})
	for i, time := range []int{-9, -8, -7} {
		x.poll(i, el(i, time))
	}
	x.poll(3, el(3, -6), mark(-10))
	x.tick(1)
	x.poll(3, el(3, 1))
	x.tick(1, mark(0))
	for i := range 3 {
		x.part(i, idle.Idle, 1, -10+i, false)
	}
	x.part(3, idle.Active, 2, 0, false)
}

// P23.3: if all are silent, time has come as far as the least of them, of which something is known or not.
func TestAllSilent(t *testing.T) {
	x := begin(t, api.Config{Rules: bound(0, 2), Timeout: 1, Drift: api.Most}, []string{times(-9, -5), times(-7)})
	x.tick(1)
	x.part(0, idle.Idle, 0, api.Never, false)
	x.part(1, idle.Idle, 0, api.Never, false)
	x.is(api.Never, 1, false)
	x.poll(0, el(0, -9), mark(-10))
	x.part(0, idle.Active, 1, -10, false)
	x.part(1, idle.Idle, 0, api.Never, false)
	x.tick(5)
	x.is(-10, 6, false)
	x.poll(1, el(1, -7))
	x.part(1, idle.Ended, 1, -8, true)
	x.poll(0, el(0, -5), mark(api.Most))
}

// P23.3: who is over is never silent.
func TestOverIsntSilent(t *testing.T) {
	x := begin(t, api.Config{Rules: bound(0, 3), Timeout: 1}, []string{"", "\x01", times(1)}, fault(1, api.ErrLength))
	x.tick(5)
	x.part(0, idle.Ended, 0, api.Never, true)
	x.part(1, idle.Failed, 0, api.Never, true)
	x.part(2, idle.Idle, 0, api.Never, false)
	x.poll(2, el(2, 1), mark(api.Most))
	x.tick(5)
	x.part(2, idle.Ended, 1, 0, true)
	x.is(api.Most, 10, true)
}

// P23.1, P23.3: who is further ahead than may be is refused, till time has come further; at the limit nobody is.
func TestHeldBack(t *testing.T) {
	x := begin(t, api.Config{Rules: bound(0, 2), Timeout: 9, Drift: 5}, []string{times(10, 15, 16, 17, 30), times(11, 12, 26)})
	x.poll(0, el(0, 10))
	x.part(0, idle.Active, 1, 9, true)
	x.refused(0)
	x.poll(1, el(1, 11), mark(9))
	x.part(0, idle.Active, 1, 9, false)
	x.poll(0, el(0, 15), mark(10))
	x.part(0, idle.Active, 2, 14, false)
	x.poll(0, el(0, 16))
	x.part(0, idle.Active, 3, 15, false)
	x.poll(0, el(0, 17))
	x.part(0, idle.Active, 4, 16, true)
	x.refused(0)
	x.poll(1, el(1, 12), mark(11))
	x.part(0, idle.Active, 4, 16, false)
	x.poll(0, el(0, 30))
	x.part(0, idle.Ended, 5, 29, true)
	x.part(1, idle.Active, 2, 11, false)
	x.poll(1, el(1, 26), mark(api.Most))
}

// P23.1, P23.3: a tick, too, by which time has come further, lets those go that were held back.
func TestATickLetsGo(t *testing.T) {
	x := begin(t, api.Config{Rules: bound(0, 2), Timeout: 3, Drift: 5}, []string{times(10, 20), times(3, 21)})
	x.poll(1, el(1, 3))
	x.tick(2)
	x.poll(0, el(0, 10), mark(2))
	x.part(0, idle.Active, 1, 9, true)
	x.refused(0)
	x.tick(1, mark(9))
	x.part(0, idle.Active, 1, 9, false)
	x.part(1, idle.Idle, 1, 2, false)
	x.poll(0, el(0, 20))
	x.poll(1, el(1, 21), mark(api.Most))
}

// P23.3: a refused poll isn't a reading: by that nobody counts as heard of.
func TestHeldBackMayBeSilent(t *testing.T) {
	x := begin(t, api.Config{Rules: bound(0, 2), Timeout: 3, Drift: 0}, []string{times(10, 20), times(1, 2, 3)})
	x.poll(0, el(0, 10))
	x.tick(2)
	x.refused(0)
	x.poll(1, el(1, 1), mark(0))
	x.refused(0)
	x.tick(1)
	x.part(0, idle.Idle, 1, 9, true)
	x.refused(0)
	x.part(1, idle.Active, 1, 0, false)
	x.poll(1, el(1, 2), mark(1))
	x.refused(0)
	x.poll(1, el(1, 3), mark(9))
	x.part(0, idle.Idle, 1, 9, false)
	x.poll(0, el(0, 20), mark(api.Most))
}

// P23.3: a limit above all numbers holds nobody back, though one that is Never and the greatest drift does.
func TestDriftAtTheEnds(t *testing.T) {
	x := begin(t, api.Config{Rules: bound(0, 2), Timeout: 9, Drift: api.Most}, []string{times(-1, 0, 1, 2), times(5, api.Most, api.Most)})
	x.poll(0, el(0, -1))
	x.part(0, idle.Active, 1, -2, false)
	x.poll(0, el(0, 0))
	x.part(0, idle.Active, 2, -1, false)
	x.poll(0, el(0, 1))
	x.part(0, idle.Active, 3, 0, true)
	x.refused(0)
	x.poll(1, el(1, 5), mark(0))
	x.poll(1, el(1, api.Most))
	x.part(1, idle.Active, 2, api.Most-1, false)
	x.poll(1, el(1, api.Most))
	x.part(1, idle.Ended, 3, api.Most-1, true)
	x.poll(0, el(0, 2), mark(api.Most))

	x = begin(t, api.Config{Rules: bound(0, 2), Timeout: 9, Drift: 7}, []string{times(api.Most-1, api.Most, api.Most), times(api.Most-5, api.Most)})
	x.poll(1, el(1, api.Most-5))
	x.poll(0, el(0, api.Most-1), mark(api.Most-6))
	x.part(0, idle.Active, 1, api.Most-2, false)
	x.poll(0, el(0, api.Most))
	x.part(0, idle.Active, 2, api.Most-1, false)
	x.poll(0, el(0, api.Most))
	x.poll(1, el(1, api.Most), mark(api.Most))

	// Of the drift 0, nobody is read who is ahead of all.
	x = begin(t, api.Config{Rules: bound(0, 2), Timeout: 9}, []string{times(1, 2), times(1, 3)})
	x.poll(0, el(0, 1))
	x.poll(1, el(1, 1), mark(0))
	x.poll(1, el(1, 3))
	x.part(1, idle.Ended, 2, 2, true)
	x.poll(0, el(0, 2), mark(api.Most))
}

// P23.3: the clock never goes beyond the numbers there are, where all is past.
func TestClockAtTheEnd(t *testing.T) {
	for _, timeout := range []int{1, 5, api.Most} {
		x := begin(t, api.Config{Rules: bound(0, 1), Timeout: timeout}, []string{times(1, 2, 3)})
		x.tick(api.Most)
		x.part(0, idle.Idle, 0, api.Never, false)
		x.is(api.Never, api.Most, false)
		x.poll(0, el(0, 1), mark(0))
		x.part(0, idle.Active, 1, 0, false)
		x.nothing(choice.Tick(-1))
		x.tick(0)
		x.part(0, idle.Idle, 1, 0, false)
		x.poll(0, el(0, 2), mark(1))
		x.tick(api.Most)
		x.part(0, idle.Idle, 2, 1, false)
		x.is(1, api.Most, false)
		x.poll(0, el(0, 3), mark(api.Most))
		x.tick(1)
		x.is(api.Most, api.Most, true)
	}
	x := begin(t, api.Config{Rules: bound(0, 1), Timeout: api.Most}, []string{times(1, 2)})
	x.tick(api.Most - 1)
	x.part(0, idle.Active, 0, api.Never, false)
	x.tick(1)
	x.part(0, idle.Idle, 0, api.Never, false)
}

// P1, P23.3: wrong choices do nothing.
func TestWrongChoices(t *testing.T) {
	x := begin(t, api.Config{Rules: bound(0, 3), Timeout: 1}, []string{times(1), "", times(2)})
	for range 2 {
		x.noSuch()
		x.refused(1)
		for _, by := range []int{-1, -2, -1 << 32, api.Least + 1, api.Least} {
			x.nothing(choice.Tick(by))
		}
		x.poll(0, el(0, 1))
		x.poll(2, el(2, 2), mark(api.Most))
		x = begin(t, api.Config{Rules: bound(0, 3), Timeout: 1}, []string{times(1), "", times(2)})
		x.tick(1)
	}
}

// P23.4: Play is New, and all choices.
func TestPlay(t *testing.T) {
	c := api.Config{Rules: bound(0, 3), Timeout: 3, Drift: 1000}
	logs := []string{times(5, 7) + "\x01", "\x80\x00", times(6, 9, 3)}
	begun := []event.Event{fault(1, api.ErrVarint)}
	if l, e := source.Play(c, logs); !slices.Equal(l, begun) || e != api.OK {
		t.Errorf("without choices: %s, %v", event.Text(l...), e)
	}
	choices := []api.Choice{choice.Poll(0), choice.Poll(0), choice.Poll(2), choice.Tick(-1), choice.Poll(2), choice.Tick(3), choice.Poll(9), choice.Poll(0), choice.Poll(2), choice.Poll(2)}
	want := slices.Concat(begun, []event.Event{el(0, 5), el(2, 6), mark(4), el(2, 9), el(0, 7), fault(0, api.ErrLength), mark(8), late(2, 3), mark(api.Most)})
	for range 2 {
		if l, e := source.Play(c, logs, choices...); !slices.Equal(l, want) || e != api.OK {
			t.Errorf("Play:\n%swant\n%s%v", event.Text(l...), event.Text(want...), e)
		}
	}
}

// P23.2: as many partitions as there may be.
func TestManyPartitions(t *testing.T) {
	const n = config.MaxParts
	logs := make([]string, n)
	for i := range logs {
		logs[i] = times(i, i+n)
	}
	x := begin(t, api.Config{Rules: bound(0, n), Timeout: 1, Drift: n}, logs)
	for i := range n - 1 {
		if l := x.s.Do(choice.Poll(i)); !slices.Equal(l, []event.Event{el(i, i)}) {
			t.Fatalf("of %d: %s", i, event.Text(l...))
		}
	}
	if l := x.s.Do(choice.Poll(n - 1)); !slices.Equal(l, []event.Event{el(n-1, n-1), mark(-1)}) {
		t.Fatalf("of the last one: %s", event.Text(l...))
	}
	for i := range n - 1 {
		if l := x.s.Do(choice.Poll(i)); !slices.Equal(l, []event.Event{el(i, i+n), mark(i)}) {
			t.Fatalf("of %d again: %s", i, event.Text(l...))
		}
	}
	if l := x.s.Do(choice.Poll(n - 1)); !slices.Equal(l, []event.Event{el(n-1, 2*n-1), mark(api.Most)}) {
		t.Fatalf("at the end: %s", event.Text(l...))
	}
	x.is(api.Most, 0, true)
}

// P23.3: long texts, of any bytes, come out as they are.
func TestTexts(t *testing.T) {
	l := []api.Record{
		{Kind: api.Data, Time: 1, Text: "a\n\"b\"\\ \x00\xff"},
		{Kind: api.Punct, Time: -5, Text: times(7, 8)},
		{Kind: api.Data, Time: 2, Text: strings.Repeat("x", frame.MaxBody-2)},
	}
	x := begin(t, api.Config{Rules: bound(9, 1), Timeout: 1}, []string{logOf(l...)})
	x.poll(0, event.Element{Part: 0, Record: l[0]}, mark(-9))
	x.poll(0, event.Element{Part: 0, Record: l[1]})
	x.poll(0, event.Element{Part: 0, Record: l[2]}, mark(api.Most))
}

// P2: Sources are apart, even of the same logs.
func TestSourcesAreApart(t *testing.T) {
	c := api.Config{Rules: bound(0, 1), Timeout: 2}
	logs := []string{times(1, 2)}
	a, b := begin(t, c, logs), begin(t, c, logs)
	a.poll(0, el(0, 1), mark(0))
	a.tick(1)
	b.part(0, idle.Active, 0, api.Never, false)
	b.is(api.Never, 0, false)
	b.poll(0, el(0, 1), mark(0))
	b.poll(0, el(0, 2), mark(api.Most))
	a.part(0, idle.Active, 1, 0, false)
	a.is(0, 1, false)
}

// P2: what was handed in isn't kept, nor changed, and what is answered is new memory.
func TestMemory(t *testing.T) {
	c := api.Config{Rules: bound(0, 2), Timeout: 3, Drift: 5}
	bytes := []byte(times(5, 6))
	logs := []string{unsafe.String(&bytes[0], len(bytes)), "\x01"}
	room := append(slices.Clone(logs), "spare")
	begun := []event.Event{fault(1, api.ErrLength)}
	s, e := source.New(c, room[:2]...)
	if e != api.OK || room[2] != "spare" || !slices.Equal(room[:2], logs) || !slices.Equal(c.Rules, bound(0, 2)) {
		t.Fatalf("New = %v, and logs %q", e, room)
	}
	c.Rules[0], c.Rules[1] = api.Rule{Kind: 7}, api.Rule{Bound: 99}
	clear(room)
	clear(bytes)
	all := slices.Clone(begun)
	for _, want := range [][]event.Event{{el(0, 5), mark(4)}, {el(0, 6), mark(api.Most)}, nil} {
		got := s.Do(choice.Poll(0))
		if !slices.Equal(got, want) {
			t.Fatalf("Do: %s, want %s", event.Text(got...), event.Text(want...))
		}
		all = slices.Concat(all, want)
		for _, l := range [][]event.Event{got, s.Begin(), s.Events()} {
			l = append(l, fault(9, 9), fault(9, 9), fault(9, 9))
			for i := range l {
				l[i] = fault(8, 8)
			}
		}
		if !slices.Equal(s.Begin(), begun) || !slices.Equal(s.Events(), all) {
			t.Fatalf("Begin %s, Events %s", event.Text(s.Begin()...), event.Text(s.Events()...))
		}
	}
}

// anything: a Config that can be, logs and choices, by chance.
func anything(r *rand.Rand) (api.Config, []string, []api.Choice) {
	drifts := []int{0, 1, 3, 10, 100, api.Most / 2, api.Most}
	c := api.Config{Timeout: 1 + r.Intn(6), Drift: drifts[r.Intn(len(drifts))]}
	ends := []string{"", "", "\x01", "\x80", "\x80\x00", "\x05\x01", "\x02\x01\x00abcd"}
	texts := []string{"", "!", "a", "b!c"}
	var logs []string
	for range 1 + r.Intn(5) {
		c.Rules = append(c.Rules, []api.Rule{
			{Kind: api.Bounded, Bound: r.Intn(5)},
			{Kind: api.Marked, Sign: '!'},
			{Kind: api.Percent, Percent: r.Intn(101), Window: 1 + r.Intn(5)},
		}[r.Intn(3)])
		start := []int{0, 0, -1000, api.Least, api.Most - 30}[r.Intn(5)]
		var l []api.Record
		for i := range r.Intn(12) {
			l = append(l, api.Record{Kind: api.Data + r.Intn(20)/19, Time: sat.Add(start, 2*i+r.Intn(8)), Text: texts[r.Intn(len(texts))]})
		}
		logs = append(logs, logOf(l...)+ends[r.Intn(len(ends))])
	}
	var choices []api.Choice
	for range r.Intn(80) {
		x := choice.Poll(r.Intn(len(logs)+2) - 1)
		if r.Intn(4) == 0 {
			x = choice.Tick(r.Intn(7) - 1)
		}
		choices = append(choices, x)
	}
	return c, logs, choices
}

// P23.5: whatever was done, there is one that isn't refused, or all are over; so all is read, if all are asked often enough.
func TestOneIsntRefused(t *testing.T) {
	r := rand.New(rand.NewSource(23))
	for range 3000 {
		c, logs, choices := anything(r)
		s, e := source.New(c, logs...)
		if e != api.OK {
			t.Fatal(e)
		}
		many, over := 0, true
		for _, x := range logs {
			l, _, _ := log.Parse(x)
			many += len(l)
		}
		for _, x := range append(choices, choice.Round(len(logs), many+len(logs))...) {
			over = s.Over()
			one, all := false, true
			for i := range logs {
				one = one || !s.Refused(i)
				all = all && (s.Status(i) == idle.Ended || s.Status(i) == idle.Failed)
			}
			if over != all || over == one {
				t.Fatalf("Over %v, want %v, one that isn't refused: %v, of %+v behind\n%s", over, all, one, c, event.Text(s.Events()...))
			}
			s.Do(x)
		}
		read := 0
		for i := range logs {
			read += s.Count(i)
		}
		if !s.Over() || read != many || s.Now() != api.Most {
			t.Fatalf("at the end Over %v, %d of %d records, Now %d", s.Over(), read, many, s.Now())
		}
	}
}
