package merge_test

import (
	"encoding/binary"
	"math"
	"slices"
	"testing"

	"tidewaiter/api"
	"tidewaiter/idle"
	"tidewaiter/merge"
)

// kinds: all that a partition may be.
var kinds = []int{idle.Active, idle.Idle, idle.Ended, idle.Failed}

// told is a Merge by the words of the chapter: each partition is looked at.
type told struct {
	marks, is []int
	now       int
}

func unknown(n int) *told {
	m := &told{now: api.Never}
	for range n {
		m.marks = append(m.marks, api.Never)
		m.is = append(m.is, idle.Active)
	}
	return m
}

func (m *told) has(i int) bool { return i >= 0 && i < len(m.marks) }

func (m *told) least() int {
	for _, is := range []int{idle.Active, idle.Idle} {
		var l []int
		for i, at := range m.marks {
			if m.is[i] == is {
				l = append(l, at)
			}
		}
		if len(l) > 0 {
			return slices.Min(l)
		}
	}
	return api.Most
}

// beside: places that n partitions don't have.
func beside(n int) []int {
	return []int{math.MinInt, math.MinInt + 1, -n - 1, -n, -2, -1, n, n + 1, 2*n + 1, 1 << 32, math.MaxInt - n, math.MaxInt}
}

// check: how far time has come, and had; twice, as asking changes nothing.
func check(t *testing.T, m *merge.Merge, want *told) {
	t.Helper()
	for range 2 {
		if got := m.Least(); got != want.least() {
			t.Fatalf("Least of the marks %d, that are %d, = %d, want %d", want.marks, want.is, got, want.least())
		}
		if got := m.Now(); got != want.now {
			t.Fatalf("Now = %d, want %d", got, want.now)
		}
	}
}

// checkAll: likewise, and each mark, also of partitions that there aren't.
func checkAll(t *testing.T, m *merge.Merge, want *told) {
	t.Helper()
	check(t, m, want)
	for i, at := range want.marks {
		if got := m.At(i); got != at {
			t.Fatalf("At(%d) = %d, want %d", i, got, at)
		}
	}
	for _, i := range beside(len(want.marks)) {
		if got := m.At(i); got != 0 {
			t.Fatalf("At(%d) of %d = %d, want 0", i, len(want.marks), got)
		}
	}
}

// mark, be, advance: of both.
func mark(t *testing.T, m *merge.Merge, want *told, i, at int) {
	t.Helper()
	if got := m.Mark(i, at); got != want.has(i) {
		t.Fatalf("Mark(%d, %d) of %d = %v", i, at, len(want.marks), got)
	}
	if want.has(i) {
		want.marks[i] = at
	}
}

func be(t *testing.T, m *merge.Merge, want *told, i, is int) {
	t.Helper()
	if got := m.Is(i, is); got != want.has(i) {
		t.Fatalf("Is(%d, %d) of %d = %v", i, is, len(want.marks), got)
	}
	if want.has(i) {
		want.is[i] = is
	}
}

func advance(t *testing.T, m *merge.Merge, want *told) {
	t.Helper()
	at, ok := 0, want.least() > want.now
	if ok {
		at = want.least()
		want.now = at
	}
	if got, is := m.Advance(); got != at || is != ok {
		t.Fatalf("Advance to %d = %d, %v, want %d, %v", want.least(), got, is, at, ok)
	}
	check(t, m, want)
}

// hold: one of these marks, all Active.
func hold(t *testing.T, marks ...int) (*merge.Merge, *told) {
	t.Helper()
	m, want := merge.New(len(marks)), unknown(len(marks))
	for i, at := range marks {
		mark(t, m, want, i, at)
	}
	checkAll(t, m, want)
	return m, want
}

// checkAdvance: by numbers that stand in the test.
func checkAdvance(t *testing.T, m *merge.Merge, at int, ok bool, now int) {
	t.Helper()
	if got, is := m.Advance(); got != at || is != ok || m.Now() != now {
		t.Fatalf("Advance = %d, %v, want %d, %v; Now = %d, want %d", got, is, at, ok, m.Now(), now)
	}
}

func checkLeast(t *testing.T, m *merge.Merge, want int) {
	t.Helper()
	if got := m.Least(); got != want {
		t.Fatalf("Least = %d, want %d", got, want)
	}
}

// P17.2: the document's example.
func TestTheDocumentsExample(t *testing.T) {
	for _, over := range [][]int{{idle.Ended, idle.Ended}, {idle.Ended, idle.Failed}, {idle.Failed, idle.Failed}} {
		m, want := hold(t, 5, 9)
		checkLeast(t, m, 5)
		be(t, m, want, 0, idle.Idle)
		checkLeast(t, m, 9)
		be(t, m, want, 1, idle.Idle)
		checkLeast(t, m, 5)
		be(t, m, want, 0, over[0])
		checkLeast(t, m, 9)
		be(t, m, want, 1, over[1])
		checkLeast(t, m, api.Most)
		checkAll(t, m, want)
	}
}

// P17.1, P17.2: nothing is known of any, so that time has come nowhere; all are Active, so that each one holds the others back.
func TestNew(t *testing.T) {
	for n := 1; n < 40; n++ {
		m, want := merge.New(n), unknown(n)
		checkAll(t, m, want)
		for i := range n {
			checkLeast(t, m, api.Never)
			checkAdvance(t, m, 0, false, api.Never)
			mark(t, m, want, i, 100-i)
			checkAll(t, m, want)
		}
		checkAdvance(t, m, 101-n, true, 101-n)
		for i := n - 1; i > 0; i-- {
			be(t, m, want, i, idle.Idle)
			checkAdvance(t, m, 101-i, true, 101-i)
		}
	}
}

// P17.1, P17.2: of none, or of below 0, all are over, as there are none that aren't.
func TestNoPartitions(t *testing.T) {
	for _, n := range []int{0, -1, -2, -1 << 20, math.MinInt + 1, math.MinInt} {
		m, want := merge.New(n), unknown(0)
		for _, i := range []int{math.MinInt, n, -1, 0, 1, math.MaxInt} {
			mark(t, m, want, i, 3)
			be(t, m, want, i, idle.Idle)
		}
		checkAll(t, m, want)
		checkAdvance(t, m, api.Most, true, api.Most)
		checkAdvance(t, m, 0, false, api.Most)
	}
}

// P17.1: partitions that there aren't change nothing.
func TestPartitionsThatThereArent(t *testing.T) {
	for n := range 20 {
		m, want := merge.New(n), unknown(n)
		for i := range n {
			mark(t, m, want, i, 100+i*7%5)
			be(t, m, want, i, kinds[i%4])
		}
		for _, i := range beside(n) {
			mark(t, m, want, i, -9)
			checkAll(t, m, want)
			for _, is := range kinds {
				be(t, m, want, i, is)
				checkAll(t, m, want)
			}
		}
		advance(t, m, want)
		checkAll(t, m, want)
	}
}

// each: all lists of so many of these numbers.
func each(many int, numbers ...int) [][]int {
	lists := [][]int{nil}
	for range many {
		var longer [][]int
		for _, l := range lists {
			for _, n := range numbers {
				longer = append(longer, append(slices.Clone(l), n))
			}
		}
		lists = longer
	}
	return lists
}

// P17.1, P17.2: all that a few partitions may be, whatever their marks are.
func TestAllThatTheyMayBe(t *testing.T) {
	for n := 1; n <= 5; n++ {
		for _, marks := range [][]int{
			{1, 2, 3, 4, 5},
			{5, 4, 3, 2, 1},
			{-3, 0, -3, 0, 3},
			{7, 7, 7, 7, 7},
			{api.Most, api.Never, 0, api.Never + 1, api.Most - 1},
		} {
			m, want := hold(t, marks[:n]...)
			for _, l := range each(n, kinds...) {
				for i, is := range l {
					be(t, m, want, i, is)
				}
				checkAll(t, m, want)
			}
		}
	}
}

// P17.1: each of the four may follow each.
func TestFromEachToEach(t *testing.T) {
	for _, steps := range each(3, kinds...) {
		for _, others := range each(2, kinds...) {
			m, want := hold(t, 4, 2, 6)
			be(t, m, want, 0, others[0])
			be(t, m, want, 2, others[1])
			for _, is := range steps {
				be(t, m, want, 1, is)
				checkAll(t, m, want)
			}
		}
	}
}

// P17.1, P17.2: one that doesn't count has a mark still, and may have another one; it doesn't count by that.
func TestMarksOfThoseThatDontCount(t *testing.T) {
	for _, is := range kinds[1:] {
		m, want := hold(t, 5, 9)
		be(t, m, want, 0, is)
		checkAll(t, m, want)
		for _, at := range []int{3, api.Never, 8, api.Most, 7} {
			mark(t, m, want, 0, at)
			checkLeast(t, m, 9)
			checkAll(t, m, want)
		}
		be(t, m, want, 0, idle.Active)
		checkLeast(t, m, 7)
		be(t, m, want, 0, is)
		be(t, m, want, 1, idle.Ended)
		mark(t, m, want, 0, 6)
		checkAll(t, m, want)
		be(t, m, want, 0, idle.Idle)
		checkLeast(t, m, 6)
		be(t, m, want, 1, idle.Idle)
		checkLeast(t, m, 6)
		be(t, m, want, 1, idle.Active)
		checkLeast(t, m, 9)
	}
}

// P17.1: a mark is what it was told last, also if that is less.
func TestAMarkMayFall(t *testing.T) {
	m, want := hold(t, 5, 9)
	for _, at := range []int{7, 3, 12, 0, -4, api.Most, api.Never, 1} {
		mark(t, m, want, 0, at)
		checkAll(t, m, want)
		checkLeast(t, m, min(at, 9))
	}
}

// P17.2: how far time has come only rises, and only by Advance.
func TestAdvance(t *testing.T) {
	m, want := hold(t, 5, 9)
	if m.Now() != api.Never {
		t.Fatalf("Now = %d", m.Now())
	}
	checkAdvance(t, m, 5, true, 5)
	checkAdvance(t, m, 0, false, 5)
	mark(t, m, want, 0, 3)
	checkLeast(t, m, 3)
	checkAdvance(t, m, 0, false, 5)
	mark(t, m, want, 0, 6)
	mark(t, m, want, 0, 5)
	checkAdvance(t, m, 0, false, 5)
	mark(t, m, want, 0, 6)
	if m.Now() != 5 {
		t.Fatalf("Now ahead of Advance = %d", m.Now())
	}
	checkAdvance(t, m, 6, true, 6)
	be(t, m, want, 0, idle.Idle)
	checkAdvance(t, m, 9, true, 9)
	be(t, m, want, 0, idle.Active)
	checkLeast(t, m, 6)
	checkAdvance(t, m, 0, false, 9)
	be(t, m, want, 0, idle.Ended)
	be(t, m, want, 1, idle.Failed)
	checkAdvance(t, m, api.Most, true, api.Most)
	be(t, m, want, 1, idle.Active)
	checkLeast(t, m, 9)
	checkAdvance(t, m, 0, false, api.Most)
}

// P17.2: 0, and those below it, are as others are; from the ends on likewise.
func TestAdvanceByAnyNumbers(t *testing.T) {
	m, want := hold(t, api.Never)
	for _, at := range []int{api.Never, api.Never + 1, api.Never, api.Never + 2, -5, -5, -6, -1, 0, 0, -1, 1, 1 << 40, 3, api.Most - 1, api.Most, api.Most - 1, api.Most} {
		mark(t, m, want, 0, at)
		advance(t, m, want)
		checkAll(t, m, want)
	}
	m, _ = hold(t, 0)
	checkAdvance(t, m, 0, true, 0)
	checkAdvance(t, m, 0, false, 0)
}

// P2: Merges have nothing in common.
func TestMergesAreApart(t *testing.T) {
	a, ofA := hold(t, 3, 1, 2)
	b, ofB := hold(t, 3, 1, 2)
	mark(t, a, ofA, 1, -7)
	be(t, b, ofB, 1, idle.Ended)
	advance(t, a, ofA)
	advance(t, b, ofB)
	checkAll(t, a, ofA)
	checkAll(t, b, ofB)
	if a.Now() != -7 || b.Now() != 2 {
		t.Fatalf("Now = %d and %d", a.Now(), b.Now())
	}
}

// P17.1, P17.2: many steps, of any number of partitions.
func TestManySteps(t *testing.T) {
	for _, n := range []int{1, 2, 3, 6, 7, 8, 9, 15, 16, 17, 31, 33, 100, 129} {
		m, want := merge.New(n), unknown(n)
		x := uint32(n)
		for k := range 3000 {
			x = x*1664525 + 1013904223
			i := int(x>>8) % n
			switch x >> 29 {
			case 0, 1, 2:
				mark(t, m, want, i, int(x>>16)%100+k/10)
			case 3, 4, 5, 6:
				be(t, m, want, i, int(x>>27)%4)
			default:
				advance(t, m, want)
			}
			check(t, m, want)
		}
		checkAll(t, m, want)
	}
}

// P17.1, P17.2: as many partitions as are promised: each one in turn is the least.
func TestTheGreatest(t *testing.T) {
	const n = 1 << 20
	m := merge.New(n)
	if m.Mark(n, 0) || m.Is(n, idle.Idle) || m.At(n-1) != api.Never {
		t.Fatal("a partition that there isn't, or a mark at the beginning")
	}
	for i := range n {
		// 7919 is a prime, and doesn't divide n, so that all numbers are there once.
		if !m.Mark(i, i*7919%n) {
			t.Fatalf("Mark(%d) = false", i)
		}
	}
	place := make([]int, n)
	for i := range n {
		place[i*7919%n] = i
	}
	for k, i := range place {
		if at, ok := m.Advance(); at != k || !ok || m.At(i) != k || !m.Is(i, kinds[1+k%3]) {
			t.Fatalf("Advance = %d, %v, want %d", at, ok, k)
		}
	}
	// None is Active any more, and of those that are Idle the first one has the least mark, 0.
	checkLeast(t, m, 0)
	checkAdvance(t, m, 0, false, n-1)
}

// P1: of more partitions than are promised, and of what none can be, each call ends.
func TestWhatIsNotPromised(t *testing.T) {
	for _, n := range []int{3, 1<<20 + 1, 1 << 31, 1 << 40, 1 << 62, math.MaxInt} {
		m := merge.New(n)
		for _, i := range []int{math.MinInt, -1, 0, 1, 1<<20 - 1, 1 << 20, n - 1, n, math.MaxInt} {
			for _, is := range []int{math.MinInt, -1, 4, 5, 1 << 32, math.MaxInt} {
				m.Is(i, is)
				m.Mark(i, -1)
				m.At(i)
				m.Least()
				m.Advance()
				m.Now()
			}
		}
	}
}

// P1, P17.1, P17.2: any steps, a byte of what is done, one of the partition, and 8 of the number each.
func FuzzMerge(f *testing.F) {
	f.Add(3, []byte("any of these, and those, and all of them"))
	f.Add(2, []byte("\x00\x01\x00\x00\x00\x00\x00\x00\x00\x05\x00\x02\x00\x00\x00\x00\x00\x00\x00\x09\x02\x00\x00\x00\x00\x00\x00\x00\x00\x00\x01\x01\x00\x00\x00\x00\x00\x00\x00\x01\x02\x00\x00\x00\x00\x00\x00\x00\x00\x00"))
	f.Add(-1, []byte("\x02\xFF\xFF\xFF\xFF\xFF\xFF\xFF\xFF\xFF"))
	f.Fuzz(func(t *testing.T, n int, l []byte) {
		n = min(max(n, -1), 200)
		m, want := merge.New(n), unknown(max(n, 0))
		for ; len(l) >= 10; l = l[10:] {
			i, number := int(l[1])-1, int(binary.BigEndian.Uint64(l[2:]))
			switch l[0] % 3 {
			case 0:
				mark(t, m, want, i, number)
			case 1:
				be(t, m, want, i, number&3)
			default:
				advance(t, m, want)
			}
			checkAll(t, m, want)
		}
	})
}
