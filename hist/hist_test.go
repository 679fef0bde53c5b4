package hist_test

import (
	"math"
	"slices"
	"testing"

	"tidewaiter/hist"
)

// rankOf: the least of numbers than which at least k are no greater, by counting them for each.
func rankOf(there []int, k int) (int, bool) {
	least, is := 0, false
	for _, n := range there {
		noGreater := 0
		for _, m := range there {
			if m <= n {
				noGreater++
			}
		}
		if noGreater >= k && (!is || n < least) {
			least, is = n, true
		}
	}
	if k < 1 {
		return 0, false
	}
	return least, is
}

// percentOf: the least of numbers than which at least p of a hundred are no greater, by counting them for each.
func percentOf(there []int, p int) (int, bool) {
	least, is := 0, false
	for _, n := range there {
		noGreater := 0
		for _, m := range there {
			if m <= n {
				noGreater++
			}
		}
		if 100*noGreater >= p*len(there) && (!is || n < least) {
			least, is = n, true
		}
	}
	return least, is
}

func checkRank(t *testing.T, h *hist.Hist, k, want int, wantOK bool) {
	t.Helper()
	if got, ok := h.Rank(k); got != want || ok != wantOK {
		t.Fatalf("Rank(%d) of %d numbers = %d, %v, want %d, %v", k, h.Len(), got, ok, want, wantOK)
	}
}

func checkPercent(t *testing.T, h *hist.Hist, p, want int, wantOK bool) {
	t.Helper()
	if got, ok := h.Percent(p); got != want || ok != wantOK {
		t.Fatalf("Percent(%d) of %d numbers = %d, %v, want %d, %v", p, h.Len(), got, ok, want, wantOK)
	}
}

// checkAll: each rank, and what is beside these, and each percent.
func checkAll(t *testing.T, h *hist.Hist, there []int) {
	t.Helper()
	if h.Len() != len(there) {
		t.Fatalf("Len = %d, want %d", h.Len(), len(there))
	}
	for k := range len(there) + 1 {
		want, ok := rankOf(there, k)
		checkRank(t, h, k, want, ok)
	}
	for _, k := range []int{math.MinInt, -len(there), -1, 0, len(there) + 1, len(there) + 2, 2*len(there) + 1, math.MaxInt} {
		checkRank(t, h, k, 0, false)
	}
	for p := range 101 {
		want, ok := percentOf(there, p)
		checkPercent(t, h, p, want, ok)
	}
}

func checkRemove(t *testing.T, h *hist.Hist, n int, want bool) {
	t.Helper()
	if got := h.Remove(n); got != want {
		t.Fatalf("Remove(%d) = %v, want %v", n, got, want)
	}
}

// without: numbers, one of these once less.
func without(there []int, n int) []int {
	i := slices.Index(there, n)
	return slices.Delete(slices.Clone(there), i, i+1)
}

// hold: a Hist of these numbers.
func hold(l ...int) *hist.Hist {
	h := &hist.Hist{}
	for _, n := range l {
		h.Add(n)
	}
	return h
}

// P8.1, P8.2: the zero one has none.
func TestNothing(t *testing.T) {
	var h hist.Hist
	checkAll(t, &h, nil)
	for _, n := range []int{math.MinInt, -1, 0, 1, math.MaxInt} {
		checkRemove(t, &h, n, false)
	}
	checkAll(t, &h, nil)
}

// P8.2: the document's examples.
func TestTheDocumentsExamples(t *testing.T) {
	h := hold(1, 1, 5)
	checkPercent(t, h, 66, 1, true)
	checkPercent(t, h, 67, 5, true)
}

// P8.1, P8.2: any order, the ends of numbers, and numbers that are there more than once.
func TestAddInAnyOrder(t *testing.T) {
	for _, l := range [][]int{
		{7},
		{0},
		{1, 2, 3, 4, 5},
		{5, 4, 3, 2, 1},
		{3, 1, 5, 2, 4},
		{2, 2, 2, 2},
		{1, 2, 1, 2, 1, 3, 1, 3},
		{-5, 5, -5, 0, 0, 5, 5},
		{math.MaxInt, math.MinInt, 0, math.MinInt, math.MaxInt, -1, math.MaxInt},
		{9, 9, 9, 9, 9, 9, 9, 9, 9, 1},
		{1, 9, 9, 9, 9, 9, 9, 9, 9, 9},
	} {
		h := hold()
		for i, n := range l {
			h.Add(n)
			checkAll(t, h, l[:i+1])
		}
	}
}

// P8.1: once less, as often as it is there, in any order; no number that isn't there.
func TestRemove(t *testing.T) {
	there := []int{4, -1, 4, 9, 4, math.MinInt, math.MaxInt, 9, 0}
	for _, order := range [][]int{
		there,
		{0, 9, math.MaxInt, math.MinInt, 4, 9, 4, -1, 4},
		{math.MinInt, -1, 0, 4, 4, 4, 9, 9, math.MaxInt},
		{math.MaxInt, 9, 9, 4, 4, 4, 0, -1, math.MinInt},
	} {
		h, left := hold(there...), there
		for _, n := range order {
			checkRemove(t, h, n, true)
			left = without(left, n)
			checkAll(t, h, left)
			for _, other := range []int{math.MinInt + 1, -2, 1, 3, 5, 10, math.MaxInt - 1, n} {
				if !slices.Contains(left, other) {
					checkRemove(t, h, other, false)
				}
			}
			checkAll(t, h, left)
		}
		h.Add(4)
		checkAll(t, h, []int{4})
	}
}

// P8.2: how many of a hundred, just at the edges between two numbers.
func TestPercentAtTheEdges(t *testing.T) {
	for _, many := range []int{1, 2, 3, 7, 10, 99, 100, 101, 150, 200, 333} {
		h := hold()
		for i := range many {
			h.Add(10 * i)
		}
		for p := range 101 {
			// The first i of which the i + 1 that are no greater are enough.
			i := 0
			for 100*(i+1) < p*many {
				i++
			}
			checkPercent(t, h, p, 10*i, true)
		}
		checkPercent(t, h, 0, 0, true)
		checkPercent(t, h, 100, 10*(many-1), true)
	}
}

// P8.1, P8.2: many numbers, few of them not the same, and many that come and go.
func TestManyNumbers(t *testing.T) {
	h := hold()
	const many = 1000000
	for i := range many {
		h.Add(i % 100 * (1 - i%2*2))
	}
	if h.Len() != many {
		t.Fatalf("Len = %d, want %d", h.Len(), many)
	}
	// Each number of -99, -97, .. -1, 0, 2, .. 98 is there 10000 times.
	checkRank(t, h, 1, -99, true)
	checkRank(t, h, 10000, -99, true)
	checkRank(t, h, 10001, -97, true)
	checkRank(t, h, many/2, -1, true)
	checkRank(t, h, many/2+1, 0, true)
	checkRank(t, h, many, 98, true)
	checkRank(t, h, many+1, 0, false)
	checkPercent(t, h, 50, -1, true)
	checkPercent(t, h, 51, 0, true)
	for i := range many {
		checkRemove(t, h, i%100*(1-i%2*2), true)
	}
	checkAll(t, h, nil)
	const room = 4096
	for i := range 100000 {
		h.Add(i * 7919 % 100003)
		if i >= room {
			checkRemove(t, h, (i-room)*7919%100003, true)
		}
	}
	if h.Len() != room {
		t.Fatalf("Len = %d, want %d", h.Len(), room)
	}
	var there []int
	for i := 100000 - room; i < 100000; i++ {
		there = append(there, i*7919%100003)
	}
	slices.Sort(there)
	for i, n := range there {
		checkRank(t, h, i+1, n, true)
	}
}

// P1: wrong numbers; these, and what is asked, change nothing.
func TestAskingChangesNothing(t *testing.T) {
	there := []int{3, 1, 3, math.MaxInt}
	h := hold(there...)
	for _, n := range []int{math.MinInt, math.MinInt / 2, -101, -1, 101, 1000, math.MaxInt / 2, math.MaxInt} {
		h.Percent(n)
		h.Rank(n)
		hold().Percent(n)
	}
	for range 3 {
		checkAll(t, h, there)
	}
}

// P2: two of them have nothing in common.
func TestHistsAreApart(t *testing.T) {
	a, b := hold(1, 2, 3), hold(2, 3, 4)
	checkRemove(t, a, 2, true)
	checkRemove(t, b, 1, false)
	b.Add(9)
	checkAll(t, a, []int{1, 3})
	checkAll(t, b, []int{2, 3, 4, 9})
}

// P8.1, P8.2: any numbers that come, and go, in any order.
func FuzzHist(f *testing.F) {
	f.Add([]byte{1, 1, 5})
	f.Add([]byte{1, 129, 1, 2, 130, 130, 5, 200})
	f.Add([]byte("any of these\xE1\xEE\xE1"))
	f.Fuzz(func(t *testing.T, l []byte) {
		h := hold()
		var there []int
		for _, b := range l {
			n := int(b&127) - 64
			if n%8 == 0 {
				n <<= 57
			}
			if b < 128 {
				h.Add(n)
				there = append(there, n)
				continue
			}
			is := slices.Contains(there, n)
			checkRemove(t, h, n, is)
			if is {
				there = without(there, n)
			}
		}
		if len(there) < 200 {
			checkAll(t, h, there)
		}
	})
}
