package idle_test

import (
	"math/big"
	"testing"

	"tidewaiter/api"
	"tidewaiter/clock"
	"tidewaiter/idle"
)

// timeouts: ordinary ones, such as are none, and the ends of numbers.
var timeouts = []int{0, 1, 2, 5, 1000, api.Most - 1, api.Most, -1, -5, api.Least + 1, api.Least}

// at: a clock that is at this.
func at(now int) *clock.Clock {
	c := &clock.Clock{}
	c.Go(now)
	return c
}

// until: so much behind now, by whole numbers of any size, at most the greatest int.
func until(now, by int) int {
	n := new(big.Int).Add(big.NewInt(int64(now)), big.NewInt(int64(max(by, 0))))
	if n.Cmp(big.NewInt(api.Most)) > 0 {
		return api.Most
	}
	return int(n.Int64())
}

// checkIs: what one is, asked twice, as asking changes nothing.
func checkIs(t *testing.T, s *idle.Status, want int) {
	t.Helper()
	for range 2 {
		if got := s.Is(); got != want {
			t.Fatalf("Is = %d, want %d", got, want)
		}
		if got, over := s.Over(), want == idle.Ended || want == idle.Failed; got != over {
			t.Fatalf("Over of %d = %v, want %v", want, got, over)
		}
	}
}

func checkTick(t *testing.T, s *idle.Status, now int, want bool) {
	t.Helper()
	c := at(now)
	if got := s.Tick(c); got != want {
		t.Fatalf("Tick at %d = %v, want %v", now, got, want)
	}
	if c.Now() != now {
		t.Fatalf("Tick: the clock of %d is at %d", now, c.Now())
	}
}

func checkRead(t *testing.T, s *idle.Status, now int, want bool) {
	t.Helper()
	c := at(now)
	if got := s.Read(c); got != want {
		t.Fatalf("Read at %d = %v, want %v", now, got, want)
	}
	if c.Now() != now {
		t.Fatalf("Read: the clock of %d is at %d", now, c.Now())
	}
}

// checkDeadline: one is Active, silent at its deadline, and not ahead of that; then it is silent.
func checkDeadline(t *testing.T, s *idle.Status, deadline int) {
	t.Helper()
	checkIs(t, s, idle.Active)
	for _, now := range []int{0, deadline / 2, deadline - 2, deadline - 1} {
		if now >= 0 && now < deadline {
			checkTick(t, s, now, false)
			checkIs(t, s, idle.Active)
		}
	}
	checkTick(t, s, deadline, true)
	checkIs(t, s, idle.Idle)
	checkTick(t, s, deadline, false)
	checkTick(t, s, api.Most, false)
	checkIs(t, s, idle.Idle)
}

// P15.1: the numbers of what a partition is.
func TestKinds(t *testing.T) {
	for i, is := range []int{idle.Active, idle.Idle, idle.Ended, idle.Failed} {
		if is != i {
			t.Errorf("the kind %d is %d", i, is)
		}
	}
}

// P15.1, P15.2: the document's example.
func TestTheDocumentsExample(t *testing.T) {
	s := idle.New(at(0), 5)
	checkTick(t, s, 4, false)
	checkTick(t, s, 5, true)
	checkIs(t, s, idle.Idle)
}

// P15.1, P15.2: the deadline of New is the clock's Until of the timeout, which may be none, or at the end.
func TestTheDeadlineOfNew(t *testing.T) {
	for _, now := range []int{0, 1, 10, 1 << 40, api.Most - 5, api.Most - 1, api.Most} {
		for _, timeout := range timeouts {
			c := at(now)
			s := idle.New(c, timeout)
			if c.Now() != now {
				t.Fatalf("New: the clock of %d is at %d", now, c.Now())
			}
			checkDeadline(t, s, until(now, timeout))
		}
	}
}

// P15.2: that of Read is that of its clock, of one that is Active, and of one that is silent.
func TestTheDeadlineOfRead(t *testing.T) {
	for _, now := range []int{0, 1, 10, 1 << 40, api.Most - 5, api.Most} {
		for _, timeout := range timeouts {
			s := idle.New(at(3), timeout)
			checkRead(t, s, now, true)
			checkDeadline(t, s, until(now, timeout))
			checkRead(t, s, now, true)
			checkIs(t, s, idle.Active)
			checkDeadline(t, s, until(now, timeout))
		}
	}
}

// P15.2: a timeout of none, or of below 0: silent as soon as it Ticks, Active as soon as it is read.
func TestNoTimeout(t *testing.T) {
	for _, timeout := range []int{0, -1, -100, api.Least} {
		s := idle.New(at(7), timeout)
		checkTick(t, s, 6, false)
		checkIs(t, s, idle.Active)
		checkTick(t, s, 7, true)
		checkRead(t, s, 7, true)
		checkIs(t, s, idle.Active)
		checkTick(t, s, 7, true)
		checkIs(t, s, idle.Idle)
	}
}

// P15.2: each Read puts it off; the one ahead is of no matter.
func TestReadPutsOff(t *testing.T) {
	s := idle.New(at(0), 10)
	for now := 0; now < 1000; now += 9 {
		checkTick(t, s, now, false)
		checkRead(t, s, now, true)
		checkTick(t, s, now+9, false)
	}
	checkTick(t, s, 1008, false)
	checkTick(t, s, 1009, true)
	checkRead(t, s, 2000, true)
	checkRead(t, s, 1000, true)
	checkTick(t, s, 1009, false)
	checkTick(t, s, 1010, true)
}

// over: those that are over, which were Active, or silent, or were read behind that; as what they are.
func over(t *testing.T, is int) []*idle.Status {
	t.Helper()
	active, silent, again := idle.New(at(0), 5), idle.New(at(0), 5), idle.New(at(0), 5)
	checkTick(t, silent, 5, true)
	checkTick(t, again, 5, true)
	checkRead(t, again, 6, true)
	l := []*idle.Status{active, silent, again}
	for _, s := range l {
		stop := s.End
		if is == idle.Failed {
			stop = s.Fail
		}
		if !stop() {
			t.Fatalf("to be %d: false", is)
		}
		checkIs(t, s, is)
	}
	return l
}

// P15.2: one that is over stays what it is, whatever comes.
func TestOver(t *testing.T) {
	for _, is := range []int{idle.Ended, idle.Failed} {
		for _, s := range over(t, is) {
			for _, now := range []int{0, 4, 5, 6, 11, 100, api.Most} {
				if s.End() {
					t.Errorf("End of one that is %d", is)
				}
				checkIs(t, s, is)
				if s.Fail() {
					t.Errorf("Fail of one that is %d", is)
				}
				checkIs(t, s, is)
				checkRead(t, s, now, false)
				checkIs(t, s, is)
				checkTick(t, s, now, false)
				checkIs(t, s, is)
			}
		}
	}
}

// P15.1, P15.2: no clock is kept: that of New or Read goes on, and what Ticks is another one.
func TestNoClockIsKept(t *testing.T) {
	c := at(0)
	s := idle.New(c, 5)
	c.Go(100)
	checkTick(t, s, 4, false)
	checkRead(t, s, 4, true)
	checkTick(t, s, 8, false)
	if !s.Tick(c) {
		t.Error("Tick of a clock that has gone on: false")
	}
	if !s.Read(c) {
		t.Error("Read of a clock that has gone on: false")
	}
	c.Go(100)
	checkDeadline(t, s, 105)
}

// P2: those of one clock have nothing else in common.
func TestStatusesAreApart(t *testing.T) {
	c := at(10)
	l := []*idle.Status{idle.New(c, 5), idle.New(c, 5), idle.New(c, 6), idle.New(c, 5)}
	if !l[1].End() || !l[3].Fail() {
		t.Error("End, Fail")
	}
	checkIs(t, l[0], idle.Active)
	checkTick(t, l[0], 15, true)
	checkTick(t, l[2], 15, false)
	checkRead(t, l[2], 20, true)
	for i, is := range []int{idle.Idle, idle.Ended, idle.Active, idle.Failed} {
		checkIs(t, l[i], is)
	}
	checkDeadline(t, l[2], 26)
}

// told is a Status by the words of the chapter, whose clock stands beside it.
type told struct {
	is, timeout, deadline, now int
}

// do: one step of each of the two; the clock's steps are those of no other name.
func (m *told) do(t *testing.T, s *idle.Status, step byte) {
	t.Helper()
	over := m.is > idle.Idle
	switch step {
	case 'r':
		checkRead(t, s, m.now, !over)
		if !over {
			m.is, m.deadline = idle.Active, until(m.now, m.timeout)
		}
	case 't':
		silent := m.is == idle.Active && m.now >= m.deadline
		checkTick(t, s, m.now, silent)
		if silent {
			m.is = idle.Idle
		}
	case 'e', 'f':
		stop, is := s.End, idle.Ended
		if step == 'f' {
			stop, is = s.Fail, idle.Failed
		}
		if stop() == over {
			t.Fatalf("%c of one that is %d = %v", step, m.is, over)
		}
		if !over {
			m.is = is
		}
	default:
		m.now = until(m.now, int(step)-'0')
	}
	checkIs(t, s, m.is)
}

// play: all steps, of one of such a timeout.
func play(t *testing.T, now, timeout int, steps string) {
	t.Helper()
	s := idle.New(at(now), timeout)
	m := told{is: idle.Active, timeout: timeout, deadline: until(now, timeout), now: now}
	checkIs(t, s, m.is)
	for i := range len(steps) {
		m.do(t, s, steps[i])
		if t.Failed() {
			t.Fatalf("of %q, from %d on, of the timeout %d", steps, now, timeout)
		}
	}
}

// P15.1, P15.2: all ways to go on for some steps.
func TestAllSteps(t *testing.T) {
	steps := []string{""}
	for range 6 {
		var longer []string
		for _, s := range steps {
			for _, x := range "rtef12" {
				longer = append(longer, s+string(x))
			}
		}
		steps = longer
	}
	for _, s := range steps {
		for _, timeout := range []int{-1, 0, 1, 2, 3} {
			play(t, 0, timeout, s)
		}
	}
}

// P1, P15.1, P15.2: any steps, by any clock, of any timeout.
func FuzzSteps(f *testing.F) {
	f.Add(0, 5, "4t1tr4t1te")
	f.Add(10, -1, "trtrtf")
	f.Add(api.Most, api.Most, "9trte")
	f.Add(api.Most-3, 2, "t1t1t1tr9t")
	f.Fuzz(func(t *testing.T, now, timeout int, steps string) {
		play(t, max(now, 0), timeout, steps)
	})
}
