package clamp_test

import (
	"encoding/binary"
	"slices"
	"testing"

	"tidewaiter/api"
	"tidewaiter/clamp"
)

// edges: numbers at both ends and about 0, rising; the first one is Never.
var edges = []int{api.Never, api.Never + 1, api.Never + 2, -1000, -2, -1, 0, 1, 2, 1000, api.Most - 1, api.Most}

// raise: does a Clamp that is now rise by a number just if that is above now? What it is behind that.
func raise(t *testing.T, c *clamp.Clamp, now, n int) int {
	t.Helper()
	above := n > now
	if got := c.Raise(n); got != above {
		t.Fatalf("Raise(%d) of %d = %v, want %v", n, now, got, above)
	}
	if above {
		now = n
	}
	checkNow(t, c, now)
	return now
}

func checkNow(t *testing.T, c *clamp.Clamp, want int) {
	t.Helper()
	// Twice, as asking changes nothing.
	for range 2 {
		if got := c.Now(); got != want {
			t.Fatalf("Now = %d, want %d", got, want)
		}
	}
}

// rises: of numbers those that are above Never and above each one ahead of them, by holding them against all of these.
func rises(l []int) []int {
	var above []int
	for i, n := range l {
		if n > api.Never && (i == 0 || n > slices.Max(l[:i])) {
			above = append(above, n)
		}
	}
	return above
}

func checkAll(t *testing.T, l, want []int) {
	t.Helper()
	if got := clamp.All(l...); !slices.Equal(got, want) {
		t.Fatalf("All(%d) = %d, want %d", l, got, want)
	}
}

// P9.1: the document's example.
func TestTheDocumentsExample(t *testing.T) {
	var c clamp.Clamp
	for _, x := range []struct {
		n   int
		is  bool
		now int
	}{{3, true, 3}, {1, false, 3}, {3, false, 3}, {5, true, 5}} {
		if got := c.Raise(x.n); got != x.is || c.Now() != x.now {
			t.Errorf("Raise(%d) = %v, want %v; Now = %d, want %d", x.n, got, x.is, c.Now(), x.now)
		}
	}
	checkAll(t, []int{3, 1, 3, 5}, []int{3, 5})
}

// P9.1: the zero one is none, that is told as Never, and that doesn't rise by Never.
func TestNoneAsYet(t *testing.T) {
	var c clamp.Clamp
	checkNow(t, &c, api.Never)
	now := raise(t, &c, api.Never, api.Never)
	raise(t, &c, now, api.Never+1)
	checkAll(t, nil, nil)
	checkAll(t, []int{}, nil)
	checkAll(t, []int{api.Never}, nil)
	checkAll(t, []int{api.Never, api.Never, 1, api.Never}, []int{1})
}

// P9.1: by each first number, 0 and those below it among them, and by each second one behind that.
func TestRaiseOfEachTwo(t *testing.T) {
	for _, a := range edges {
		for _, b := range edges {
			var c clamp.Clamp
			now := raise(t, &c, api.Never, a)
			now = raise(t, &c, now, b)
			raise(t, &c, now, now)
		}
	}
}

// P9.1: the least step up is one, and from the greatest number there is none.
func TestSteps(t *testing.T) {
	var c clamp.Clamp
	now := api.Never
	for n := api.Never; n < api.Never+100; n++ {
		now = raise(t, &c, now, n)
	}
	for n := -100; n <= 100; n++ {
		now = raise(t, &c, now, n)
		now = raise(t, &c, now, n-1)
	}
	for _, n := range []int{api.Most - 1, api.Most, api.Most, api.Most - 1, 0, api.Never} {
		now = raise(t, &c, now, n)
	}
	checkNow(t, &c, api.Most)
}

// P9.1: a refused number, however often, is of no matter for those behind it.
func TestRefused(t *testing.T) {
	var c clamp.Clamp
	now := raise(t, &c, api.Never, 10)
	for _, n := range []int{9, 10, -10, 0, api.Never, 9, 9} {
		if c.Raise(n) {
			t.Fatalf("Raise(%d) of 10 = true", n)
		}
		checkNow(t, &c, 10)
	}
	raise(t, &c, now, 11)
}

// P9.1: of lists in any order.
func TestAll(t *testing.T) {
	for _, x := range []struct{ l, want []int }{
		{[]int{7}, []int{7}},
		{[]int{0}, []int{0}},
		{[]int{-7}, []int{-7}},
		{[]int{1, 2, 3}, []int{1, 2, 3}},
		{[]int{3, 2, 1}, []int{3}},
		{[]int{2, 2, 2}, []int{2}},
		{[]int{-3, -5, -1, -2, 0, -1}, []int{-3, -1, 0}},
		{[]int{api.Never, -3, -3, 0, -1, 7, 7, 2, 8}, []int{-3, 0, 7, 8}},
		{[]int{api.Never + 1, api.Never, api.Most, api.Most, 0}, []int{api.Never + 1, api.Most}},
		{edges, edges[1:]},
	} {
		checkAll(t, x.l, x.want)
	}
}

// P9.1: each three edges, by All and by Raise of one Clamp.
func TestAllOfEachThree(t *testing.T) {
	for _, a := range edges {
		for _, b := range edges {
			for _, d := range edges {
				l := []int{a, b, d}
				checkAll(t, l, rises(l))
				var c clamp.Clamp
				now := api.Never
				for _, n := range l {
					now = raise(t, &c, now, n)
				}
			}
		}
	}
}

// P2: All leaves its list and the spare room as they are, and shares none of it; one answer is apart from another.
func TestAllAnswersNewMemory(t *testing.T) {
	all := []int{1, 5, 2, 6, 6, 3, 9, 9}
	l := all[:6]
	one, other := clamp.All(l...), clamp.All(l...)
	if want := []int{1, 5, 2, 6, 6, 3, 9, 9}; !slices.Equal(all, want) {
		t.Errorf("behind All the list is %d, want %d", all, want)
	}
	clear(one[:cap(one)])
	if want := []int{1, 5, 2, 6, 6, 3, 9, 9}; !slices.Equal(all, want) {
		t.Errorf("when an answer was cleared, the list is %d, want %d", all, want)
	}
	clear(all)
	if want := []int{1, 5, 6}; !slices.Equal(other, want) {
		t.Errorf("when all else was cleared, an answer is %d, want %d", other, want)
	}
	rising := []int{1, 2, 3}
	answer := clamp.All(rising...)
	rising[0] = 9
	if want := []int{1, 2, 3}; !slices.Equal(answer, want) {
		t.Errorf("when the list was changed, an answer is %d, want %d", answer, want)
	}
}

// P2: Clamps have nothing in common, a copy and what it is a copy of neither; nor has All with any of them.
func TestClampsAreApart(t *testing.T) {
	var a, b clamp.Clamp
	raise(t, &a, api.Never, 5)
	checkNow(t, &b, api.Never)
	raise(t, &b, api.Never, -5)
	checkNow(t, &a, 5)
	c := a
	raise(t, &c, 5, 8)
	checkNow(t, &a, 5)
	raise(t, &a, 5, 6)
	checkNow(t, &c, 8)
	checkAll(t, []int{1, 100}, []int{1, 100})
	checkAll(t, []int{1, 100}, []int{1, 100})
	checkNow(t, &a, 6)
}

// P9.1: many numbers, most of which rise, and many, few of which do.
func TestManyNumbers(t *testing.T) {
	const many = 1000000
	l := make([]int, many)
	for i := range l {
		l[i] = i - many/2
	}
	checkAll(t, l, l)
	slices.Reverse(l)
	checkAll(t, l, l[:1])
}

// P1, P9.1: any numbers, 8 bytes each.
func FuzzClamp(f *testing.F) {
	f.Add([]byte("any of these, and those"))
	f.Add([]byte("\x80\x00\x00\x00\x00\x00\x00\x00\x00\x00\x00\x00\x00\x00\x00\x00\x7F\xFF\xFF\xFF\xFF\xFF\xFF\xFF"))
	f.Fuzz(func(t *testing.T, b []byte) {
		var l []int
		for ; len(b) >= 8; b = b[8:] {
			l = append(l, int(binary.BigEndian.Uint64(b)))
		}
		if len(l) < 1000 {
			checkAll(t, l, rises(l))
		}
		var c clamp.Clamp
		now := api.Never
		for _, n := range l {
			now = raise(t, &c, now, n)
		}
	})
}
