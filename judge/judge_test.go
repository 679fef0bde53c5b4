package judge_test

import (
	"fmt"
	"math/big"
	"math/rand"
	"slices"
	"testing"
	"unsafe"

	"tidewaiter/api"
	"tidewaiter/choice"
	"tidewaiter/clamp"
	"tidewaiter/event"
	"tidewaiter/gen"
	"tidewaiter/idle"
	"tidewaiter/judge"
	"tidewaiter/log"
	"tidewaiter/sat"
	"tidewaiter/source"
)

// at: a record of a time. said: one that says how far time has come.
func at(time int) api.Record { return api.Record{Kind: api.Data, Time: time} }

func said(time int) api.Record { return api.Record{Kind: api.Punct, Time: time} }

// logOf: a log of records. times: one of records of these times.
func logOf(l ...api.Record) string {
	s, e := log.Build(l...)
	if e != api.OK {
		panic(e)
	}
	return s
}

func times(l ...int) string {
	var records []api.Record
	for _, n := range l {
		records = append(records, at(n))
	}
	return logOf(records...)
}

// el, late: a record of a time that comes out of a partition, on time, or late. mark, fault: likewise.
func el(part, time int) event.Event { return event.Element{Part: part, Record: at(time)} }

func late(part, time int) event.Event {
	return event.Element{Part: part, Record: at(time), Late: true}
}

func mark(at int) event.Event { return event.Mark{At: at} }

func fault(part int, e api.Errno) event.Event { return event.Fault{Part: part, Err: e} }

// row: events, one behind the other.
func row(l ...event.Event) []event.Event { return l }

// bound: rules of these bounds.
func bound(l ...int) []api.Rule {
	var rules []api.Rule
	for _, n := range l {
		rules = append(rules, api.Rule{Kind: api.Bounded, Bound: n})
	}
	return rules
}

// edges: numbers at both ends, and about 0.
var edges = []int{api.Least, api.Least + 1, -1 << 32, -2, -1, 0, 1, 2, 3, 1 << 32, 1<<32 + 1, api.Most - 1, api.Most}

// P25.3: the document's example.
func TestTheDocumentsExample(t *testing.T) {
	if judge.Tagged(mark(5), el(0, 5)) {
		t.Error("an element at the mark that isn't late is Tagged")
	}
}

// P25.1: each mark is above the one ahead of it, whatever stands between, and the first one above Never.
func TestRises(t *testing.T) {
	for i, x := range []struct {
		l    []event.Event
		want bool
	}{
		{nil, true},
		{row(), true},
		{row(el(0, 3), fault(0, 2), late(9, 3)), true},
		{row(mark(0)), true},
		{row(mark(api.Never)), false},
		{row(mark(api.Never + 1)), true},
		{row(mark(api.Most)), true},
		{row(el(0, 3), mark(api.Never)), false},
		{row(mark(-3), mark(-2), mark(5), mark(api.Most)), true},
		{row(mark(3), mark(3)), false},
		{row(mark(3), el(0, 9), fault(0, 2), mark(3)), false},
		{row(mark(3), el(0, 9), fault(0, 2), mark(4)), true},
		{row(mark(3), mark(2)), false},
		{row(mark(3), mark(5), mark(4)), false},
		{row(mark(3), mark(5), mark(4), mark(6)), false},
		{row(mark(api.Most), mark(api.Most)), false},
		{row(mark(5), mark(api.Never), mark(6)), false},
		{row(mark(api.Least+1), mark(api.Most)), true},
		{row(mark(4), el(0, 3), el(0, 2)), true},
	} {
		if judge.Rises(x.l...) != x.want {
			t.Errorf("%d: Rises of\n%s= %v", i, event.Text(x.l...), !x.want)
		}
	}
}

// P25.1: an element is late just if the last mark ahead of it says so; Never says nothing.
func TestTagged(t *testing.T) {
	for i, x := range []struct {
		l    []event.Event
		want bool
	}{
		{nil, true},
		{row(mark(3), fault(0, 2), mark(3), mark(2)), true},
		{row(el(0, 3)), true},
		{row(late(0, 3)), false},
		{row(el(0, api.Least), el(0, api.Most)), true},
		{row(late(0, api.Least)), false},
		{row(mark(5), el(0, 6)), true},
		{row(mark(5), late(0, 6)), false},
		{row(mark(5), el(0, 5)), false},
		{row(mark(5), late(0, 5)), true},
		{row(mark(5), el(0, 4)), false},
		{row(mark(5), late(0, 4)), true},
		{row(mark(5), late(0, api.Least), el(0, api.Most)), true},
		{row(el(0, 5), mark(5)), true},
		{row(late(0, 5), mark(5)), false},
		{row(mark(api.Most), late(0, api.Most)), true},
		{row(mark(api.Most), el(0, api.Most)), false},
		{row(mark(api.Never), el(0, api.Least)), true},
		{row(mark(api.Never), late(0, api.Least)), false},
		{row(mark(api.Least+1), late(0, api.Least), late(0, api.Least+1), el(0, api.Least+2)), true},
		{row(mark(api.Least+1), el(0, api.Least)), false},
		// The last one counts, not the greatest one, nor the first one.
		{row(mark(9), mark(3), el(0, 5)), true},
		{row(mark(9), mark(3), late(0, 5)), false},
		{row(mark(3), mark(9), late(0, 5)), true},
		{row(mark(9), mark(api.Never), el(0, 5)), true},
		{row(mark(9), mark(api.Never), late(0, 5)), false},
		// Of which partition, of which kind, and what else came, is of no matter.
		{row(mark(5), fault(0, 2), late(-7, 5), late(0, 5), el(7, 6)), true},
		{row(mark(5), late(0, 5), el(1, 5)), false},
		{row(mark(5), event.Element{Record: said(5), Late: true}, event.Element{Record: api.Record{Kind: 9, Time: 6}}), true},
		{row(mark(5), event.Element{Record: said(5)}), false},
	} {
		if judge.Tagged(x.l...) != x.want {
			t.Errorf("%d: Tagged of\n%s= %v", i, event.Text(x.l...), !x.want)
		}
	}
}

// P25.1: those that say that they are late, whether they should or not.
func TestLates(t *testing.T) {
	for i, x := range []struct {
		l    []event.Event
		want int
	}{
		{nil, 0},
		{row(el(0, 3), mark(5), el(0, 3), fault(0, 2)), 0},
		{row(late(0, 3)), 1},
		{row(late(0, 3), late(0, 3), el(0, 3), late(-1, api.Most), mark(1), late(7, 0)), 4},
	} {
		if got := judge.Lates(x.l...); got != x.want {
			t.Errorf("%d: Lates = %d, want %d", i, got, x.want)
		}
	}
	many := slices.Repeat(row(late(0, 3), el(0, 3), mark(3)), 1<<16)
	if got := judge.Lates(many...); got != 1<<16 {
		t.Errorf("Lates of many = %d", got)
	}
}

// P25.1: records and errors of one partition, of whatever number, in order; a mark is of none.
func TestOf(t *testing.T) {
	l := row(el(1, 7), mark(3), late(0, 2), fault(1, 4), el(-1, 9), fault(-1, 0), late(1, 5), el(1, 7), fault(1, 2), fault(api.Most, 5), event.Element{Part: api.Least, Record: said(8)})
	for part, want := range map[int]struct {
		records []api.Record
		faults  []api.Errno
	}{
		0:             {[]api.Record{at(2)}, nil},
		1:             {[]api.Record{at(7), at(5), at(7)}, []api.Errno{4, 2}},
		-1:            {[]api.Record{at(9)}, []api.Errno{api.OK}},
		2:             {},
		api.Most:      {nil, []api.Errno{5}},
		api.Least:     {[]api.Record{said(8)}, nil},
		api.Least + 1: {},
	} {
		records, faults := judge.Of(part, l...)
		if !slices.Equal(records, want.records) || !slices.Equal(faults, want.faults) {
			t.Errorf("Of(%d) = %v, %v, want %v, %v", part, records, faults, want.records, want.faults)
		}
	}
	if records, faults := judge.Of(0); len(records)+len(faults) > 0 {
		t.Error("Of nothing", records, faults)
	}
}

// P25.2: what the logs have, in their order, and a fault behind all of it.
func TestKept(t *testing.T) {
	logs := []string{times(5, 3, 5), times(7) + "\x01", "", "\x80\x00"}
	end := mark(api.Most)
	all := row(el(0, 5), el(1, 7), fault(1, api.ErrLength), el(0, 3), el(0, 5), fault(3, api.ErrVarint))
	for i, x := range []struct {
		l           []event.Event
		kept, whole bool
	}{
		{nil, true, false},
		{row(end), true, false},
		{row(el(0, 5), end), true, false},
		{row(el(0, 5), el(0, 3)), true, false},
		{row(el(0, 5), el(0, 5)), false, false},
		{row(el(0, 3)), false, false},
		{row(late(0, 5), mark(3), mark(3), late(0, 3), late(0, 5)), true, false},
		{row(el(0, 5), el(0, 3), el(0, 5), el(0, 5)), false, false},
		// What a record has must be all the same.
		{row(event.Element{Record: said(5)}), false, false},
		{row(event.Element{Record: api.Record{Kind: api.Data, Time: 5, Text: "a"}}), false, false},
		{row(event.Element{}), false, false},
		// A partition that has none, and those that there aren't.
		{row(el(2, 5)), false, false},
		{row(el(2, 0)), false, false},
		{row(el(3, 0)), false, false},
		{row(el(4, 5)), false, false},
		{row(el(-1, 5)), false, false},
		{row(el(api.Least, 5)), false, false},
		{row(el(api.Most, 5)), false, false},
		{row(el(1<<32, 5)), false, false},
		{row(fault(4, api.ErrLength)), false, false},
		{row(fault(-1, api.ErrLength)), false, false},
		{row(fault(api.Least, api.OK)), false, false},
		{row(fault(api.Most, api.OK)), false, false},
		// A fault that there is, once, behind all records.
		{row(el(1, 7), fault(1, api.ErrLength)), true, false},
		{row(fault(1, api.ErrLength)), false, false},
		{row(fault(1, api.ErrLength), el(1, 7)), false, false},
		{row(el(1, 7), fault(1, api.ErrShort)), false, false},
		{row(el(1, 7), fault(1, api.OK)), false, false},
		{row(el(1, 7), fault(1, api.ErrLength), fault(1, api.ErrLength)), false, false},
		{row(el(1, 7), fault(1, api.ErrLength), el(1, 7)), false, false},
		{row(el(1, 7), fault(1, api.ErrLength), mark(9), el(0, 5), late(0, 3)), true, false},
		{row(fault(3, api.ErrVarint)), true, false},
		{row(fault(3, api.ErrVarint), fault(3, api.ErrVarint)), false, false},
		{row(fault(3, api.ErrVarint), el(3, 0)), false, false},
		// A log without an error has no fault, and not that it is OK.
		{row(fault(2, api.OK)), false, false},
		{row(fault(2, api.ErrShort)), false, false},
		{row(el(0, 5), el(0, 3), el(0, 5), fault(0, api.OK)), false, false},
		{row(el(0, 5), el(0, 3), el(0, 5), fault(0, api.ErrShort)), false, false},
		// All of it.
		{all, true, false},
		{append(row(end), all...), true, true},
		{slices.Concat(all, row(end)), true, true},
		{slices.Concat(all, row(mark(9))), true, false},
		{slices.Concat(row(end), all, row(mark(9))), true, false},
		{slices.Concat(row(mark(9), mark(9)), all, row(end)), true, true},
		{slices.Concat(all, row(el(0, 5), end)), false, false},
		{slices.Concat(all, row(fault(0, api.OK), end)), false, false},
		{slices.Concat(all, row(fault(3, api.ErrVarint), end)), false, false},
		{slices.Concat(all[:5], row(end)), true, false},
		{slices.Concat(all[:2], all[3:], row(end)), true, false},
		{slices.Concat(all[:4], all[5:], row(end)), true, false},
		{slices.Concat(all[1:], row(end)), false, false},
	} {
		if judge.Kept(x.l, logs...) != x.kept || judge.Whole(x.l, logs...) != x.whole {
			t.Errorf("%d: Kept, Whole of\n%s= %v, %v", i, event.Text(x.l...), judge.Kept(x.l, logs...), judge.Whole(x.l, logs...))
		}
	}
}

// P25.2: without logs nothing comes out but marks; of empty logs all has come.
func TestKeptOfNoLogs(t *testing.T) {
	end := row(mark(api.Most))
	for i, x := range []struct {
		l           []event.Event
		logs        []string
		kept, whole bool
	}{
		{nil, nil, true, false},
		{end, nil, true, true},
		{row(el(0, 5), mark(api.Most)), nil, false, false},
		{row(fault(0, api.OK), mark(api.Most)), nil, false, false},
		{end, []string{"", ""}, true, true},
		{row(mark(api.Most - 1)), []string{""}, true, false},
		{nil, []string{""}, true, false},
		{end, []string{"", "\x01"}, true, false},
		{end, []string{times(4), ""}, true, false},
	} {
		if judge.Kept(x.l, x.logs...) != x.kept || judge.Whole(x.l, x.logs...) != x.whole {
			t.Errorf("%d: Kept, Whole = %v, %v", i, judge.Kept(x.l, x.logs...), judge.Whole(x.l, x.logs...))
		}
	}
}

// P25.2: a record behind a fault's bytes is none of the log.
func TestKeptBehindAFault(t *testing.T) {
	s := times(5) + "\x01" + times(6)
	for i, x := range []struct {
		l    []event.Event
		want bool
	}{
		{row(el(0, 5)), true},
		{row(el(0, 5), el(0, 6)), false},
		{row(el(0, 5), fault(0, api.ErrLength)), true},
		{row(el(0, 5), fault(0, api.ErrLength), el(0, 6)), false},
		{row(el(0, 5), el(0, 6), fault(0, api.ErrLength)), false},
	} {
		if judge.Kept(x.l, s) != x.want {
			t.Errorf("%d: Kept = %v", i, !x.want)
		}
	}
}

// P25.3: nobody is read who is further ahead of the last mark than may be.
func TestDrifted(t *testing.T) {
	c := api.Config{Rules: bound(2, 0), Drift: 3}
	low := api.Config{Rules: bound(0), Drift: 3}
	for i, x := range []struct {
		c    api.Config
		l    []event.Event
		want bool
	}{
		{c, nil, true},
		{c, row(mark(3), fault(0, 2)), true},
		// The first record of a partition may come whatever the marks are.
		{c, row(el(0, api.Most)), true},
		{c, row(el(0, api.Most), el(1, api.Most)), true},
		{c, row(mark(api.Never), el(0, 9)), true},
		// The time of 5 has come to 2, or to 4.
		{c, row(el(0, 5), el(0, 6)), false},
		{c, row(el(0, 5), mark(-2), el(0, 6)), false},
		{c, row(el(0, 5), mark(-1), el(0, 6)), true},
		{c, row(el(1, 5), mark(0), el(1, 6)), false},
		{c, row(el(1, 5), mark(1), el(1, 6)), true},
		// What is read itself doesn't count, nor what comes behind it, nor what others have.
		{c, row(el(0, 5), mark(-1), el(0, 99)), true},
		{c, row(el(0, 5), mark(-1), el(0, 99), el(0, 1)), false},
		{c, row(el(0, 5), el(0, 1), mark(9)), false},
		{c, row(el(0, 99), el(1, 5)), true},
		{c, row(el(0, 99), mark(0), el(1, 3), el(1, 3)), true},
		{c, row(el(0, 99), mark(0), el(1, 3), el(0, 3)), false},
		// Whether they are late is of no matter.
		{c, row(late(0, 5), mark(-1), late(0, 6)), true},
		{c, row(late(0, 5), mark(-2), late(0, 6)), false},
		// The last mark counts, not the greatest one; what a Never is.
		{c, row(el(0, 5), mark(9), mark(-2), el(0, 6)), false},
		{c, row(el(0, 5), mark(-2), mark(9), el(0, 6)), true},
		{c, row(el(0, 5), mark(9), mark(api.Never), el(0, 6)), false},
		{low, row(el(0, api.Least+4), el(0, 9)), true},
		{low, row(el(0, api.Least+5), el(0, 9)), false},
		{low, row(el(0, api.Least+5), mark(api.Never), el(0, 9)), false},
		{low, row(el(0, api.Least+5), mark(api.Never+1), el(0, 9)), true},
		// It is cut off at the greatest number.
		{low, row(el(0, api.Most), mark(api.Most-1), el(0, api.Most), mark(api.Most), el(0, 1)), true},
		{low, row(el(0, api.Most), mark(api.Most-4), el(0, 1)), true},
		{low, row(el(0, api.Most), mark(api.Most-5), el(0, 1)), false},
		{api.Config{Rules: bound(0), Drift: api.Most}, row(el(0, 0), el(0, 1)), true},
		{api.Config{Rules: bound(0), Drift: api.Most}, row(el(0, 1), el(0, 1)), false},
		{api.Config{Rules: bound(0), Drift: api.Most}, row(el(0, 1), mark(1), el(0, api.Most), el(0, 1)), true},
		{api.Config{Rules: bound(0)}, row(el(0, 5), mark(4), el(0, 6), mark(5), el(0, 7)), true},
		{api.Config{Rules: bound(0)}, row(el(0, 5), mark(4), el(0, 6), mark(4), el(0, 7)), false},
		// Elements of partitions that there aren't; of faults nothing is asked.
		{c, row(el(2, 5)), false},
		{c, row(el(-1, 5)), false},
		{c, row(el(api.Least, 5)), false},
		{c, row(el(api.Most, 5)), false},
		{c, row(el(0, 5), el(1<<32, 5)), false},
		{c, row(fault(2, 5), fault(-1, 5), fault(0, 0), fault(0, 0)), true},
		{api.Config{}, nil, true},
		{api.Config{}, row(mark(3), fault(0, 1)), true},
		{api.Config{}, row(el(0, 3)), false},
		// Whether there can be such a Config is of no matter, but for its Rules.
		{api.Config{Rules: bound(0), Timeout: -5}, row(el(0, 3)), true},
	} {
		if judge.Drifted(x.c, x.l...) != x.want {
			t.Errorf("%d: Drifted(%+v) of\n%s= %v", i, x.c, event.Text(x.l...), !x.want)
		}
	}
}

// P25.3: of other rules, too.
func TestDriftedByRules(t *testing.T) {
	punct := func(time int) event.Event { return event.Element{Record: said(time)} }
	text := func(time int, text string) event.Event {
		return event.Element{Record: api.Record{Kind: api.Data, Time: time, Text: text}}
	}
	marked, percent := api.Rule{Kind: api.Marked, Sign: '!', Bound: -1}, api.Rule{Kind: api.Percent, Percent: 100, Window: 2, Sign: -1}
	for i, x := range []struct {
		r    api.Rule
		l    []event.Event
		want bool
	}{
		{marked, row(el(0, 99), el(0, 99), el(0, 99)), true},
		{marked, row(mark(1), punct(5), el(0, 9)), false},
		{marked, row(mark(2), punct(5), el(0, 9)), true},
		{marked, row(mark(1), text(5, "a!"), el(0, 9)), false},
		{marked, row(mark(1), text(5, "a?"), el(0, 9)), true},
		// Of 10 and 8 the time has come to 9, as it had behind the first one.
		{percent, row(el(0, 10), mark(6), el(0, 8), el(0, 11), el(0, 11)), true},
		{percent, row(el(0, 10), mark(5), el(0, 8)), false},
		{percent, row(el(0, 10), mark(6), el(0, 8), mark(5), el(0, 11)), false},
		// Behind 11 and 12 it has come to 11.
		{percent, row(el(0, 10), mark(6), el(0, 8), el(0, 11), el(0, 12), el(0, 13)), false},
		{percent, row(el(0, 10), mark(6), el(0, 8), el(0, 11), el(0, 12), mark(8), el(0, 13)), true},
	} {
		if judge.Drifted(api.Config{Rules: []api.Rule{x.r}, Drift: 3}, x.l...) != x.want {
			t.Errorf("%d: Drifted(%+v) of\n%s= %v", i, x.r, event.Text(x.l...), !x.want)
		}
	}
}

// wrongRules: those that can't be.
var wrongRules = []api.Rule{{Kind: 3}, {Kind: -1}, {Kind: api.Most}, {Bound: -1}, {Kind: api.Marked, Sign: -1}, {Kind: api.Marked, Sign: 0x110000}, {Kind: api.Percent}, {Kind: api.Percent, Percent: 101, Window: 1}, {Kind: api.Percent, Window: gen.MaxWindow + 1}}

// P25.3: each Rule must be one that can be, whether any element is of it or not.
func TestDriftedOfWrongRules(t *testing.T) {
	for _, r := range wrongRules {
		for _, rules := range [][]api.Rule{{r}, {r, {}}, {{}, r}, {{}, r, {}}} {
			for _, l := range [][]event.Event{nil, row(mark(5)), row(el(0, 5))} {
				if judge.Drifted(api.Config{Rules: rules, Timeout: 1, Drift: 3}, l...) {
					t.Errorf("Drifted of %+v", rules)
				}
			}
		}
	}
	good := []api.Rule{{Kind: api.Bounded, Bound: api.Most, Sign: -1, Percent: -1}, {Kind: api.Marked, Sign: 0x10FFFF, Bound: -1}, {Kind: api.Percent, Percent: 100, Window: gen.MaxWindow, Bound: -1}}
	if !judge.Drifted(api.Config{Rules: good}, el(0, 5), el(1, 5), el(2, 5)) || !judge.Drifted(api.Config{Rules: slices.Repeat(bound(1), 5000)}, el(4999, 5)) {
		t.Error("not Drifted of rules that can be")
	}
}

// P25.3: as many logs as rules, each of which is a bound that its log keeps.
func TestOrderly(t *testing.T) {
	for i, x := range []struct {
		rules []api.Rule
		logs  []string
		want  bool
	}{
		{nil, nil, true},
		{nil, []string{""}, false},
		{bound(0), nil, false},
		{bound(0), []string{""}, true},
		{bound(0), []string{"", ""}, false},
		{bound(0, 0), []string{""}, false},
		{bound(0, 0), []string{"", ""}, true},
		{bound(-1), []string{""}, false},
		{bound(api.Least), []string{""}, false},
		{bound(0, -1), []string{"", ""}, false},
		{[]api.Rule{{Kind: api.Marked, Sign: '!'}}, []string{""}, false},
		{[]api.Rule{{Kind: api.Percent, Percent: 100, Window: 1}}, []string{""}, false},
		{[]api.Rule{{Kind: 3}}, []string{""}, false},
		{[]api.Rule{{Kind: -1}}, []string{""}, false},
		{[]api.Rule{{}, {Kind: api.Marked}}, []string{"", ""}, false},
		// What a rule doesn't go by is of no matter.
		{[]api.Rule{{Bound: 2, Sign: -1, Percent: -1, Window: -1}}, []string{times(5, 3)}, true},
		// No record is further behind the greatest one ahead of it than the bound.
		{bound(2), []string{times(5, 3, 4, 9, 7, 8, 7)}, true},
		{bound(1), []string{times(5, 3)}, false},
		{bound(2), []string{times(5, 3, 2)}, false},
		{bound(2), []string{times(5, 3, 6, 3)}, false},
		{bound(2), []string{times(9, 7, 6)}, false},
		{bound(0), []string{times(5, 5, 6, 6)}, true},
		{bound(0), []string{times(5, 5, 4)}, false},
		{bound(2, 1), []string{times(5, 3), times(5, 4)}, true},
		{bound(2, 1), []string{times(5, 3), times(5, 3)}, false},
		{bound(1, 2), []string{times(5, 3), times(5, 3)}, false},
		{bound(2), []string{logOf(at(5), said(3), said(9), at(7))}, true},
		{bound(2), []string{logOf(at(5), said(9), at(6))}, false},
		// At the ends.
		{bound(0), []string{times(api.Least)}, false},
		{bound(0), []string{times(api.Least + 1)}, true},
		{bound(3), []string{times(api.Least + 3)}, false},
		{bound(3), []string{times(api.Least + 4)}, true},
		{bound(3), []string{times(api.Least+5, api.Least+3)}, false},
		{bound(3), []string{times(api.Least+5, api.Least+4)}, true},
		{bound(api.Most), []string{times(-1)}, false},
		{bound(api.Most), []string{times(0, api.Most, 0)}, true},
		{bound(api.Most), []string{times(0, api.Most, -1)}, false},
		{bound(api.Most - 1), []string{times(-1, api.Most-2, -1)}, true},
		{bound(api.Most - 1), []string{times(-1, api.Most, 0)}, false},
		{bound(api.Most - 1), []string{times(-1, api.Most, 1)}, true},
		{bound(5), []string{times(api.Most, api.Most-5)}, true},
		{bound(5), []string{times(api.Most, api.Most-6)}, false},
		// What is no record is of no matter, nor what is behind it.
		{bound(0), []string{"\x01"}, true},
		{bound(0), []string{times(5) + "\x01" + times(4)}, true},
		{bound(0), []string{times(5, 4) + "\x01"}, false},
	} {
		for _, c := range []api.Config{{Rules: x.rules, Timeout: 5, Drift: 3}, {Rules: x.rules, Timeout: -5, Drift: -3}} {
			if judge.Orderly(c, x.logs...) != x.want {
				t.Errorf("%d: Orderly(%+v) = %v", i, c, !x.want)
			}
		}
	}
}

// other is an Event of another type.
type other struct{ line func() string }

func (o other) Line() string { return o.line() }

// P1: of what is no event, and of any numbers, nothing is promised, but that the calls end.
func TestNoEvents(t *testing.T) {
	l := row(nil, (*event.Mark)(nil), (*event.Element)(nil), &event.Fault{}, other{}, other{func() string { panic("no line") }}, mark(5), late(0, 4))
	for from := range l {
		for _, c := range []api.Config{{}, {Rules: bound(0)}, {Rules: wrongRules, Drift: -1}} {
			part := l[from:]
			judge.Rises(part...)
			judge.Tagged(part...)
			judge.Of(0, part...)
			judge.Kept(part, "", "\x01")
			judge.Drifted(c, part...)
			judge.Lates(part...)
			judge.Whole(part)
			judge.Orderly(c, "")
		}
	}
	for _, n := range edges {
		for _, m := range edges {
			c := api.Config{Rules: bound(n), Timeout: m, Drift: m}
			judge.Drifted(c, el(0, m), mark(m), el(0, n), mark(n), el(0, m), el(n, m))
			judge.Orderly(c, times(m, n, m))
		}
	}
}

// P2: what is handed in stays as it is, its spare room, too, and what is answered is new memory.
func TestMemory(t *testing.T) {
	bytes := []byte(times(5, 3))
	logs := []string{unsafe.String(&bytes[0], len(bytes)), times(7) + "\x01", "spare"}
	l := row(el(0, 5), el(1, 7), fault(1, api.ErrLength), mark(3), late(0, 3), mark(api.Most), el(0, 77))
	c := api.Config{Rules: append(bound(2, 0), api.Rule{Kind: 77}), Timeout: 1, Drift: 3}
	was, rules := slices.Clone(l), slices.Clone(c.Rules)
	c.Rules = c.Rules[:2]
	part := l[:6]
	for range 2 {
		if !judge.Rises(part...) || !judge.Tagged(part...) || !judge.Kept(part, logs[:2]...) || !judge.Drifted(c, part...) || judge.Lates(part...) != 1 || !judge.Whole(part, logs[:2]...) || !judge.Orderly(c, logs[:2]...) {
			t.Error("another answer of the same")
		}
	}
	a, x := judge.Of(1, part...)
	b, y := judge.Of(1, part...)
	a[0], x[0] = at(8), 8
	_, _ = append(a, at(9)), append(x, 9)
	if b[0] != at(7) || y[0] != api.ErrLength {
		t.Error("what was answered has become", b, y)
	}
	if !slices.Equal(l, was) || !slices.Equal(c.Rules[:3], rules) || string(bytes) != times(5, 3) || logs[0] != string(bytes) || logs[1] != times(7)+"\x01" || logs[2] != "spare" {
		t.Error("what was handed in has been changed")
	}
}

// lines: what comes out of a partition by events, as lines, whether it was late or not.
func lines(part int, l []event.Event) []string {
	var own []string
	for _, e := range l {
		if event.Part(e) != part {
			continue
		}
		switch e := e.(type) {
		case event.Element:
			e.Late = false
			own = append(own, e.Line())
		case event.Fault:
			own = append(own, e.Line())
		}
	}
	return own
}

// keptAndWhole: of each partition's lines, held against all that its log has.
func keptAndWhole(l []event.Event, logs []string) (kept, whole bool) {
	kept, whole = true, event.Last(l...) == api.Most
	several := 0
	for i, s := range logs {
		var all []event.Event
		records, _, e := log.Parse(s)
		for _, r := range records {
			all = append(all, event.Element{Part: i, Record: r})
		}
		if e != api.OK {
			all = append(all, fault(i, e))
		}
		own, full := lines(i, l), lines(i, all)
		several += len(own)
		kept = kept && len(own) <= len(full) && slices.Equal(own, full[:min(len(own), len(full))])
		whole = whole && len(own) == len(full)
	}
	// Those that are of no partition.
	kept = kept && several == len(l)-len(event.Of[event.Mark](l...))
	return kept, kept && whole
}

// rises: all marks are such that they would each raise a number.
func rises(l []event.Event) bool {
	var marks []int
	for _, m := range event.Of[event.Mark](l...) {
		marks = append(marks, m.At)
	}
	return slices.Equal(clamp.All(marks...), marks)
}

// tagged: each element by what is ahead of it.
func tagged(l []event.Event) bool {
	for i, e := range l {
		x, ok := e.(event.Element)
		last := event.Last(l[:i]...)
		if ok && x.Late != (last > api.Never && x.Record.Time < last || last > api.Never && x.Record.Time == last) {
			return false
		}
	}
	return true
}

// drifted: each element by what is ahead of it, all worked out anew.
func drifted(c api.Config, l []event.Event) bool {
	for _, r := range c.Rules {
		if gen.Check(r) != api.OK {
			return false
		}
	}
	for i, e := range l {
		x, ok := e.(event.Element)
		if !ok {
			continue
		}
		if x.Part < 0 || x.Part >= len(c.Rules) {
			return false
		}
		way, _ := gen.Of(c.Rules[x.Part])
		for _, y := range event.Of[event.Element](l[:i]...) {
			if y.Part == x.Part {
				way.Seen(y.Record)
			}
		}
		if way.Now() > sat.Add(event.Last(l[:i]...), c.Drift) {
			return false
		}
	}
	return true
}

// orderly: by whole numbers of any size.
func orderly(c api.Config, logs []string) bool {
	if len(logs) != len(c.Rules) {
		return false
	}
	whole := func(n int) *big.Int { return big.NewInt(int64(n)) }
	for i, r := range c.Rules {
		if r.Kind != api.Bounded || r.Bound < 0 {
			return false
		}
		records, _, _ := log.Parse(logs[i])
		for j, x := range records {
			// That Least and the bound together are above all numbers can't be.
			if least := new(big.Int).Add(whole(api.Least), whole(r.Bound)); whole(x.Time).Cmp(least) <= 0 {
				return false
			}
			for _, y := range records[:j] {
				if least := new(big.Int).Sub(whole(y.Time), whole(r.Bound)); whole(x.Time).Cmp(least) < 0 {
					return false
				}
			}
		}
	}
	return true
}

// checkAll holds each answer against one that is worked out otherwise.
func checkAll(t *testing.T, c api.Config, logs []string, l []event.Event) {
	t.Helper()
	kept, whole := keptAndWhole(l, logs)
	lates := 0
	for _, x := range event.Of[event.Element](l...) {
		if x.Line()[0] == 'l' {
			lates++
		}
	}
	want := fmt.Sprint(rises(l), tagged(l), kept, drifted(c, l), lates, whole, orderly(c, logs))
	got := fmt.Sprint(judge.Rises(l...), judge.Tagged(l...), judge.Kept(l, logs...), judge.Drifted(c, l...), judge.Lates(l...), judge.Whole(l, logs...), judge.Orderly(c, logs...))
	if got != want {
		t.Fatalf("Rises, Tagged, Kept, Drifted, Lates, Whole, Orderly = %s, want %s, of %+v, %q and\n%s", got, want, c, logs, event.Text(l...))
	}
	for i := -1; i <= len(logs); i++ {
		records, faults := judge.Of(i, l...)
		var own []string
		for _, x := range event.Of[event.Element](l...) {
			if x.Part == i {
				own = append(own, fmt.Sprint(x.Record))
			}
		}
		for _, x := range event.Of[event.Fault](l...) {
			if x.Part == i {
				own = append(own, fmt.Sprint(int(x.Err)))
			}
		}
		var told []string
		for _, r := range records {
			told = append(told, fmt.Sprint(r))
		}
		for _, e := range faults {
			told = append(told, fmt.Sprint(int(e)))
		}
		if !slices.Equal(told, own) {
			t.Fatalf("Of(%d) = %q, want %q", i, told, own)
		}
	}
}

// lead reads numbers from bytes; behind their end all are 0.
type lead struct{ b []byte }

func (l *lead) below(n int) int {
	if len(l.b) == 0 {
		return 0
	}
	b := l.b[0]
	l.b = l.b[1:]
	return int(b) % n
}

// scene: a Config that can be, logs and choices, by what bytes say; often the logs keep the rules' bounds, and often the last choices are rounds enough.
func scene(b []byte) (c api.Config, logs []string, choices []api.Choice, rounds bool) {
	l := &lead{b}
	c = api.Config{Timeout: []int{1, 2, 5, 9, 30, api.Most}[l.below(6)], Drift: []int{0, 1, 3, 10, 40, 1 << 62, api.Most}[l.below(7)]}
	inOrder, rounds := l.below(2) == 0, l.below(2) == 0
	records := 0
	for range 1 + l.below(4) {
		r := api.Rule{Kind: api.Bounded, Bound: []int{0, 1, 2, 7, api.Most}[l.below(5)]}
		if !inOrder {
			r = []api.Rule{r, {Kind: api.Marked, Sign: '!'}, {Kind: api.Percent, Percent: []int{0, 50, 100}[l.below(3)], Window: 1 + l.below(4)}}[l.below(3)]
		}
		own := recordsBy(l, r.Bound, inOrder)
		records += len(own)
		c.Rules = append(c.Rules, r)
		logs = append(logs, logOf(own...)+[]string{"", "", "", "\x01", "\x80", "\x80\x00", "\x03\x01", "\x02\x01\x00abcd"}[l.below(8)])
	}
	for len(l.b) > 0 {
		x := choice.Poll(l.below(len(logs)+2) - 1)
		if l.below(6) == 0 {
			x = choice.Tick([]int{0, 1, 2, 3, -1, api.Most}[l.below(6)])
		}
		choices = append(choices, x)
	}
	if rounds {
		choices = append(choices, choice.Round(len(logs), records+len(logs))...)
	}
	return c, logs, choices, rounds
}

// recordsBy: records, which are out of order by a bound at most, if that is asked.
func recordsBy(l *lead, bound int, inOrder bool) []api.Record {
	start := []int{0, -100, api.Least, api.Most - 40}[l.below(4)]
	if inOrder {
		start = max(start, api.Least+bound+1)
	}
	var records []api.Record
	most := start
	for range l.below(12) {
		time := sat.Add(start, l.below(48))
		if inOrder {
			time = sat.Add(max(start, sat.Sub(most, bound)), l.below(8))
		}
		most = max(most, time)
		records = append(records, api.Record{
			Kind: []int{api.Data, api.Data, api.Data, api.Punct}[l.below(4)],
			Time: time,
			Text: []string{"", "a", "!", "\xff"}[l.below(4)],
		})
	}
	return records
}

// silent: is a partition of a source Idle?
func silent(s *source.Source, parts int) bool {
	for i := range parts {
		if s.Status(i) == idle.Idle {
			return true
		}
	}
	return false
}

// checkPlayed: what comes out of a source is as it should be. How much there was to be seen is counted by names.
func checkPlayed(t *testing.T, b []byte, seen map[string]int) {
	t.Helper()
	c, logs, choices, rounds := scene(b)
	l, e := source.Play(c, logs, choices...)
	s, f := source.New(c, logs...)
	if e != api.OK || f != api.OK {
		t.Fatal("Play, New", e, f)
	}
	idled := silent(s, len(logs))
	for _, x := range choices {
		s.Do(x)
		idled = idled || silent(s, len(logs))
	}
	if !judge.Rises(l...) || !judge.Tagged(l...) || !judge.Kept(l, logs...) || !judge.Drifted(c, l...) {
		t.Fatalf("Rises, Tagged, Kept, Drifted = %v, %v, %v, %v of %+v, %q and\n%s", judge.Rises(l...), judge.Tagged(l...), judge.Kept(l, logs...), judge.Drifted(c, l...), c, logs, event.Text(l...))
	}
	if judge.Orderly(c, logs...) && !idled {
		seen["orderly"] += len(event.Of[event.Element](l...))
		if n := judge.Lates(l...); n > 0 {
			t.Fatalf("%d are late of %+v, %q and\n%s", n, c, logs, event.Text(l...))
		}
	}
	if rounds {
		seen["rounds"]++
		if !judge.Whole(l, logs...) || !s.Over() {
			t.Fatalf("not Whole of %+v, %q and\n%s", c, logs, event.Text(l...))
		}
	}
	seen["lates"] += judge.Lates(l...)
	seen["marks"] += len(event.Of[event.Mark](l...))
	checkAll(t, c, logs, l)
}

// P25.1 to P25.4: of what comes out by chance.
func TestPlayed(t *testing.T) {
	r := rand.New(rand.NewSource(25))
	seen := map[string]int{}
	for range 2000 {
		b := make([]byte, r.Intn(300))
		r.Read(b)
		checkPlayed(t, b, seen)
	}
	for _, name := range []string{"orderly", "rounds", "lates", "marks"} {
		if seen[name] < 500 {
			t.Errorf("too few to be seen: %s, %d", name, seen[name])
		}
	}
}

// changed: events of which one is left out, told twice, put elsewhere, or another one.
func changed(r *rand.Rand, l []event.Event) []event.Event {
	l = slices.Clone(l)
	if len(l) == 0 {
		return row(mark(api.Most))
	}
	i := r.Intn(len(l))
	e := l[i]
	switch r.Intn(5) {
	case 0:
		return slices.Delete(l, i, i+1)
	case 1:
		return slices.Insert(l, i, e)
	case 2:
		j := r.Intn(len(l))
		l[i], l[j] = l[j], e
		return l
	case 3:
		return slices.Insert(l, i, []event.Event{mark(api.Never), mark(5), fault(0, api.OK), fault(0, api.ErrLength), el(0, 0), el(-1, 0), fault(9, 1)}[r.Intn(7)])
	}
	switch x := e.(type) {
	case event.Mark:
		x.At = sat.Add(x.At, r.Intn(5)-2)
		e = x
	case event.Fault:
		if r.Intn(2) == 0 {
			x.Part += r.Intn(3) - 1
		} else {
			x.Err = api.Errno(r.Intn(7))
		}
		e = x
	case event.Element:
		switch r.Intn(5) {
		case 0:
			x.Part += r.Intn(3) - 1
		case 1:
			x.Late = !x.Late
		case 2:
			x.Record.Kind = 3 - x.Record.Kind
		case 3:
			x.Record.Text += "!"
		case 4:
			x.Record.Time = sat.Add(x.Record.Time, r.Intn(5)-2)
		}
		e = x
	}
	l[i] = e
	return l
}

// P25.1 to P25.3: of what is almost what came out, and by another configuration and other logs.
func TestChanged(t *testing.T) {
	r := rand.New(rand.NewSource(2503))
	for range 1000 {
		b := make([]byte, r.Intn(120))
		r.Read(b)
		c, logs, choices, _ := scene(b)
		l, e := source.Play(c, logs, choices...)
		if e != api.OK {
			t.Fatal(e)
		}
		for range 4 {
			l = changed(r, l)
			checkAll(t, c, logs, l)
		}
		c.Drift = max(0, sat.Add(c.Drift, r.Intn(7)-3))
		i := r.Intn(len(logs))
		c.Rules[i].Bound = sat.Add(c.Rules[i].Bound, r.Intn(5)-2)
		logs[i] = logs[i][:r.Intn(len(logs[i])+1)]
		checkAll(t, c, logs, l)
		checkAll(t, c, logs[1:], l)
		c.Rules = c.Rules[1:]
		checkAll(t, c, logs, l)
		checkAll(t, c, logs[1:], l)
	}
}

// P25.4: one that is silent may be late when it comes, though its log is in order.
func TestLateBehindSilence(t *testing.T) {
	c := api.Config{Rules: bound(0, 0), Timeout: 2, Drift: 100}
	logs := []string{times(5, 9), times(3, 4)}
	l, e := source.Play(c, logs, choice.Tick(1), choice.Poll(0), choice.Tick(1), choice.Poll(1))
	want := row(el(0, 5), mark(4), late(1, 3))
	if e != api.OK || !slices.Equal(l, want) || !judge.Orderly(c, logs...) || judge.Lates(l...) != 1 || !judge.Tagged(l...) {
		t.Errorf("Play:\n%swant\n%s", event.Text(l...), event.Text(want...))
	}
}

// P25.2, P25.3: many logs, and many records, are gone through once.
func TestMany(t *testing.T) {
	const parts, records = 4096, 20000
	logs := slices.Repeat([]string{times(5) + "\x01"}, parts)
	c := api.Config{Rules: slices.Repeat([]api.Rule{{Kind: api.Percent, Percent: 50, Window: gen.MaxWindow}}, parts), Timeout: 1, Drift: api.Most}
	var l []event.Event
	for i := range parts {
		l = append(l, el(i, 5), fault(i, api.ErrLength))
	}
	l = append(l, mark(api.Most))
	if !judge.Whole(l, logs...) || !judge.Drifted(c, l...) || judge.Whole(l[:len(l)-2], logs...) {
		t.Error("of many logs")
	}
	long := slices.Repeat([]int{7}, records)
	l = append(slices.Repeat(row(el(0, 7)), records), mark(api.Most))
	if !judge.Whole(l, times(long...)) || judge.Kept(l, times(long[1:]...)) || !judge.Orderly(api.Config{Rules: bound(0)}, times(long...)) {
		t.Error("of many records")
	}
}

// P1, P25.1 to P25.4: by bytes that a fuzzer tries.
func FuzzPlayed(f *testing.F) {
	f.Add([]byte{})
	f.Add([]byte("two or three logs, and polls and ticks by whatever these bytes happen to say of them"))
	f.Fuzz(func(t *testing.T, b []byte) {
		if len(b) < 1<<10 {
			checkPlayed(t, b, map[string]int{})
		}
	})
}

// P1, P25.2, P25.3: any bytes as logs.
func FuzzLogs(f *testing.F) {
	f.Add(times(5, 3), times(7)+"\x01")
	f.Fuzz(func(t *testing.T, a, b string) {
		if len(a)+len(b) > 1<<10 {
			return
		}
		c := api.Config{Rules: bound(1, 0), Timeout: 3, Drift: 2}
		logs := []string{a, b}
		l, e := source.Play(c, logs, choice.Round(2, len(a)+len(b)+2)...)
		if e != api.OK || !judge.Whole(l, logs...) {
			t.Fatal("not Whole", e, event.Text(l...))
		}
		checkAll(t, c, logs, l)
		checkAll(t, c, []string{b, a}, l)
	})
}
