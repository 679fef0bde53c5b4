package clock_test

import (
	"encoding/binary"
	"math/big"
	"testing"

	"tidewaiter/api"
	"tidewaiter/clock"
)

// steps: by which a clock goes on, from 0 on, also to the end.
var steps = []int{0, 1, 2, 5, 1000, 1 << 31, 1 << 32, api.Most / 2, api.Most/2 + 1, api.Most - 2, api.Most - 1, api.Most}

// back: by which no clock goes on.
var back = []int{-1, -2, -5, -1000, -1 << 31, -1 << 32, api.Least / 2, -api.Most, api.Least + 1, api.Least}

// points: which a clock may have come to, or never.
func points(now int) []int {
	l := append(append([]int{}, steps...), back...)
	l = append(l, now)
	if now > api.Least {
		l = append(l, now-1)
	}
	if now < api.Most {
		l = append(l, now+1)
	}
	return l
}

// later: layer 1's Add, by whole numbers of any size.
func later(now, by int) int {
	n := new(big.Int).Add(big.NewInt(int64(now)), big.NewInt(int64(by)))
	if n.Cmp(big.NewInt(api.Most)) > 0 {
		return api.Most
	}
	return int(n.Int64())
}

// checkClock: all that can be asked of a clock that is now.
func checkClock(t *testing.T, c *clock.Clock, now int) {
	t.Helper()
	// Twice, as asking changes nothing.
	for range 2 {
		if got := c.Now(); got != now {
			t.Fatalf("Now = %d, want %d", got, now)
		}
		for _, by := range steps {
			if got, want := c.Until(by), later(now, by); got != want {
				t.Fatalf("at %d Until(%d) = %d, want %d", now, by, got, want)
			}
		}
		for _, by := range back {
			if got := c.Until(by); got != now {
				t.Fatalf("at %d Until(%d) = %d, want %d", now, by, got, now)
			}
		}
		for _, at := range points(now) {
			if got, want := c.Past(at), at <= now; got != want {
				t.Fatalf("at %d Past(%d) = %v, want %v", now, at, got, want)
			}
		}
	}
}

// checkGo: a clock goes on by each of these, one behind the other, asked behind each.
func checkGo(t *testing.T, l ...int) {
	t.Helper()
	var c clock.Clock
	now := 0
	checkClock(t, &c, now)
	for _, by := range l {
		if got, want := c.Go(by), by >= 0; got != want {
			t.Fatalf("of %d: Go(%d) = %v, want %v", l, by, got, want)
		}
		if by >= 0 {
			now = later(now, by)
		}
		checkClock(t, &c, now)
	}
}

// P14.1: the document's example.
func TestTheDocumentsExample(t *testing.T) {
	var c clock.Clock
	if !c.Go(5) {
		t.Error("Go(5) = false")
	}
	if c.Go(-1) {
		t.Error("Go(-1) = true")
	}
	checkClock(t, &c, 5)
}

// P14.1: the zero one is 0, and Past 0.
func TestTheZeroOne(t *testing.T) {
	var c clock.Clock
	checkClock(t, &c, 0)
	checkClock(t, new(clock.Clock), 0)
	if !c.Past(0) || c.Past(1) {
		t.Errorf("Past(0) = %v, Past(1) = %v", c.Past(0), c.Past(1))
	}
}

// P14.1: known numbers.
func TestKnownNumbers(t *testing.T) {
	var c clock.Clock
	for _, x := range []struct {
		by   int
		goes bool
		now  int
	}{{0, true, 0}, {-1, false, 0}, {7, true, 7}, {0, true, 7}, {1, true, 8}, {-8, false, 8}, {api.Least, false, 8}, {92, true, 100}} {
		if got := c.Go(x.by); got != x.goes {
			t.Errorf("Go(%d) = %v, want %v", x.by, got, x.goes)
		}
		if got := c.Now(); got != x.now {
			t.Errorf("behind Go(%d) Now = %d, want %d", x.by, got, x.now)
		}
	}
	for _, x := range [][2]int{{0, 100}, {1, 101}, {50, 150}, {-1, 100}, {-100, 100}, {api.Least, 100}, {api.Most - 101, api.Most - 1}, {api.Most - 100, api.Most}, {api.Most - 99, api.Most}, {api.Most, api.Most}} {
		if got := c.Until(x[0]); got != x[1] {
			t.Errorf("Until(%d) = %d, want %d", x[0], got, x[1])
		}
	}
	for at, want := range map[int]bool{api.Least: true, -1: true, 0: true, 99: true, 100: true, 101: false, api.Most: false} {
		if got := c.Past(at); got != want {
			t.Errorf("Past(%d) = %v, want %v", at, got, want)
		}
	}
}

// P14.1: at the end it stays, and is Past all.
func TestAtTheEnd(t *testing.T) {
	var c clock.Clock
	if !c.Go(api.Most-1) || c.Past(api.Most) || !c.Go(1) || !c.Past(api.Most) {
		t.Errorf("Now = %d", c.Now())
	}
	checkClock(t, &c, api.Most)
	for _, by := range steps {
		if !c.Go(by) {
			t.Errorf("Go(%d) = false", by)
		}
		checkClock(t, &c, api.Most)
	}
	for _, by := range back {
		if c.Go(by) {
			t.Errorf("Go(%d) = true", by)
		}
		checkClock(t, &c, api.Most)
	}
}

// P14.1: each three steps, also such as don't go.
func TestGo(t *testing.T) {
	all := append(append([]int{}, steps...), back...)
	for _, a := range all {
		for _, b := range all {
			for _, d := range all {
				checkGo(t, a, b, d)
			}
		}
	}
}

// P2: clocks have nothing in common, and a copy of one goes on by itself.
func TestClocksAreApart(t *testing.T) {
	var a, b clock.Clock
	a.Go(3)
	checkClock(t, &a, 3)
	checkClock(t, &b, 0)
	b = a
	a.Go(4)
	b.Go(10)
	checkClock(t, &a, 7)
	checkClock(t, &b, 13)
}

// P14.1: many steps.
func TestManySteps(t *testing.T) {
	var c clock.Clock
	const many = 1000000
	for i := range many {
		if c.Go(i%3-1) != (i%3 > 0) {
			t.Fatalf("Go(%d)", i%3-1)
		}
	}
	checkClock(t, &c, many/3)
}

// P1, P14.1: any steps, 8 bytes each.
func FuzzGo(f *testing.F) {
	f.Add([]byte("any of these, and those"))
	f.Add([]byte("\x00\x00\x00\x00\x00\x00\x00\x05\xFF\xFF\xFF\xFF\xFF\xFF\xFF\xFF\x7F\xFF\xFF\xFF\xFF\xFF\xFF\xFF"))
	f.Fuzz(func(t *testing.T, b []byte) {
		var l []int
		for ; len(b) >= 8; b = b[8:] {
			l = append(l, int(binary.BigEndian.Uint64(b)))
		}
		checkGo(t, l...)
	})
}
