package sat_test

import (
	"math/big"
	"slices"
	"testing"

	"tidewaiter/api"
	"tidewaiter/sat"
)

// edges: numbers at both ends, at their halves, and about 0, rising.
var edges = []int{
	api.Least, api.Least + 1, api.Least + 2, api.Least/2 - 1, api.Least / 2, api.Least/2 + 1,
	-1000, -3, -2, -1, 0, 1, 2, 3, 1000,
	api.Most/2 - 1, api.Most / 2, api.Most/2 + 1, api.Most - 2, api.Most - 1, api.Most,
}

// within: a whole number of any size, or the end of ints beyond which it is.
func within(n *big.Int) int {
	if n.Cmp(big.NewInt(api.Least)) < 0 {
		return api.Least
	}
	if n.Cmp(big.NewInt(api.Most)) > 0 {
		return api.Most
	}
	return int(n.Int64())
}

// P1.1: ordinary numbers, and the document's example.
func TestAddAndSubOfOrdinaryNumbers(t *testing.T) {
	for _, x := range []struct{ a, b, sum, less int }{
		{0, 0, 0, 0},
		{2, 3, 5, -1},
		{3, 2, 5, 1},
		{-2, -3, -5, 1},
		{-2, 3, 1, -5},
		{7, -10, -3, 17},
		{1 << 40, 1, 1<<40 + 1, 1<<40 - 1},
		{api.Most, 1, api.Most, api.Most - 1},
	} {
		if got := sat.Add(x.a, x.b); got != x.sum {
			t.Errorf("Add(%d, %d) = %d, want %d", x.a, x.b, got, x.sum)
		}
		if got := sat.Sub(x.a, x.b); got != x.less {
			t.Errorf("Sub(%d, %d) = %d, want %d", x.a, x.b, got, x.less)
		}
	}
}

// P1.1: just at the ends, one short of them, and one beyond.
func TestAddAndSubAtTheEnds(t *testing.T) {
	for _, x := range []struct {
		name      string
		got, want int
	}{
		{"Add to just Most", sat.Add(api.Most-1, 1), api.Most},
		{"Add to one below Most", sat.Add(api.Most-2, 1), api.Most - 1},
		{"Add to one above Most", sat.Add(1, api.Most), api.Most},
		{"Add of two Mosts", sat.Add(api.Most, api.Most), api.Most},
		{"Add to just Least", sat.Add(api.Least+1, -1), api.Least},
		{"Add to one above Least", sat.Add(api.Least+2, -1), api.Least + 1},
		{"Add to one below Least", sat.Add(-1, api.Least), api.Least},
		{"Add of two Leasts", sat.Add(api.Least, api.Least), api.Least},
		{"Add of Least and Most", sat.Add(api.Least, api.Most), -1},
		{"Sub to just Least", sat.Sub(-1, api.Most), api.Least},
		{"Sub to one below Least", sat.Sub(-2, api.Most), api.Least},
		{"Sub of Least and 1", sat.Sub(api.Least, 1), api.Least},
		{"Sub of Least and Most", sat.Sub(api.Least, api.Most), api.Least},
		{"Sub to just Most", sat.Sub(-1, api.Least), api.Most},
		{"Sub to one above Most", sat.Sub(0, api.Least), api.Most},
		{"Sub to one below Most", sat.Sub(-2, api.Least), api.Most - 1},
		{"Sub of Most and -1", sat.Sub(api.Most, -1), api.Most},
		{"Sub of Most and Least", sat.Sub(api.Most, api.Least), api.Most},
		{"Sub of Least and Least", sat.Sub(api.Least, api.Least), 0},
	} {
		if x.got != x.want {
			t.Errorf("%s: %d, want %d", x.name, x.got, x.want)
		}
	}
}

// P1.1: each two of the edges, against sums of whole numbers of any size.
func TestAddAndSubAreWholeNumbersCutOff(t *testing.T) {
	for _, a := range edges {
		for _, b := range edges {
			x, y := big.NewInt(int64(a)), big.NewInt(int64(b))
			if got, want := sat.Add(a, b), within(new(big.Int).Add(x, y)); got != want {
				t.Errorf("Add(%d, %d) = %d, want %d", a, b, got, want)
			}
			if got, want := sat.Sub(a, b), within(new(big.Int).Sub(x, y)); got != want {
				t.Errorf("Sub(%d, %d) = %d, want %d", a, b, got, want)
			}
		}
	}
}

// P1.1: Sum goes in order, and is cut off at each number, not just at the end.
func TestSum(t *testing.T) {
	for _, x := range []struct {
		l    []int
		want int
	}{
		{nil, 0},
		{[]int{}, 0},
		{[]int{7}, 7},
		{[]int{api.Least}, api.Least},
		{[]int{1, 2, 3}, 6},
		{[]int{5, -5, 0}, 0},
		{[]int{api.Most, 5, -5}, api.Most - 5},
		{[]int{api.Most, -5, 5}, api.Most},
		{[]int{5, -5, api.Most}, api.Most},
		{[]int{api.Least, -5, 5}, api.Least + 5},
		{[]int{api.Least, 5, -5}, api.Least},
		{[]int{api.Most, api.Most, api.Least}, -1},
		{[]int{api.Most, 1, api.Least, -1, 4}, 2},
	} {
		if got := sat.Sum(x.l...); got != x.want {
			t.Errorf("Sum(%d) = %d, want %d", x.l, got, x.want)
		}
	}
}

// P2: Sum leaves the list and its spare room as they are.
func TestSumLeavesItsListAlone(t *testing.T) {
	all := []int{api.Most, 1, 2, 9, 9}
	sat.Sum(all[:3]...)
	if want := []int{api.Most, 1, 2, 9, 9}; !slices.Equal(all, want) {
		t.Errorf("behind Sum the list is %d, want %d", all, want)
	}
}

// P1.2: inside, at both ends, and beyond them, also of ranges of one number and of all.
func TestWithin(t *testing.T) {
	for _, x := range []struct{ n, least, most, want int }{
		{2, 0, 3, 2},
		{0, 0, 3, 0},
		{3, 0, 3, 3},
		{-1, 0, 3, 0},
		{4, 0, 3, 3},
		{-5, 0, 3, 0},
		{5, 0, 3, 3},
		{-7, -9, -4, -7},
		{-10, -9, -4, -9},
		{0, -9, -4, -4},
		{4, 5, 5, 5},
		{5, 5, 5, 5},
		{6, 5, 5, 5},
		{api.Least, 0, 3, 0},
		{api.Most, 0, 3, 3},
		{api.Least, api.Least, api.Most, api.Least},
		{api.Most, api.Least, api.Most, api.Most},
		{0, api.Least, api.Most, 0},
		{api.Most, api.Least, api.Least, api.Least},
		{api.Least, api.Most, api.Most, api.Most},
	} {
		if got := sat.Within(x.n, x.least, x.most); got != x.want {
			t.Errorf("Within(%d, %d, %d) = %d, want %d", x.n, x.least, x.most, got, x.want)
		}
	}
}

// P1.2: of each range of edges and each number the one in the middle, if the three are sorted.
func TestWithinIsTheMiddleOfThree(t *testing.T) {
	for i, least := range edges {
		for _, most := range edges[i:] {
			for _, n := range edges {
				three := []int{n, least, most}
				slices.Sort(three)
				if got := sat.Within(n, least, most); got != three[1] {
					t.Errorf("Within(%d, %d, %d) = %d, want %d", n, least, most, got, three[1])
				}
			}
		}
	}
}

// P1: Within ends and doesn't panic, if its range is the wrong way round (what it answers then isn't promised).
func TestWithinOfAWrongRange(t *testing.T) {
	for i, least := range edges {
		for _, most := range edges[:i] {
			for _, n := range edges {
				sat.Within(n, least, most)
			}
		}
	}
}
