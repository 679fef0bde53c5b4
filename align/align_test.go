package align_test

import (
	"encoding/binary"
	"math"
	"math/big"
	"slices"
	"testing"

	"tidewaiter/align"
	"tidewaiter/api"
)

// edges: numbers at both ends and about 0, rising.
var edges = []int{api.Never, api.Never + 1, api.Never + 5, -1000, -5, -1, 0, 1, 4, 5, 6, 1000, api.Most - 5, api.Most - 1, api.Most}

// drifts: those that are promised, among edges and beside them.
var drifts = []int{0, 1, 5, 1000, 1 << 40, api.Most - 1, api.Most}

// told is an Align by the words of the chapter.
type told struct {
	drift, global int
	locals        []int
}

func unknown(drift, n int) *told {
	m := &told{drift: drift, global: api.Never}
	for range n {
		m.locals = append(m.locals, api.Never)
	}
	return m
}

func (m *told) has(i int) bool { return i >= 0 && i < len(m.locals) }

// limit: by whole numbers of any size, at most the greatest int.
func (m *told) limit() int {
	n := new(big.Int).Add(big.NewInt(int64(m.global)), big.NewInt(int64(m.drift)))
	if n.Cmp(big.NewInt(api.Most)) > 0 {
		return api.Most
	}
	return int(n.Int64())
}

func (m *told) held() []int {
	var l []int
	limit := m.limit()
	for i, at := range m.locals {
		if at > limit {
			l = append(l, i)
		}
	}
	return l
}

// beside: places that n partitions don't have.
func beside(n int) []int {
	return []int{math.MinInt, math.MinInt + 1, -n - 1, -n, -2, -1, n, n + 1, 2*n + 1, 1 << 32, math.MaxInt - n, math.MaxInt}
}

// check: all that can be asked of one, also of partitions that there aren't; twice, as asking changes nothing.
func check(t *testing.T, a *align.Align, want *told) {
	t.Helper()
	held := want.held()
	for range 2 {
		if got := a.Limit(); got != want.limit() {
			t.Fatalf("Limit of %d and %d = %d, want %d", want.global, want.drift, got, want.limit())
		}
		if got := a.Held(); !slices.Equal(got, held) {
			t.Fatalf("Held of %d by %d = %d, want %d", want.locals, want.limit(), got, held)
		}
		for i := range want.locals {
			if got := a.Paused(i); got != slices.Contains(held, i) {
				t.Fatalf("Paused(%d) of %d by %d = %v", i, want.locals[i], want.limit(), got)
			}
		}
		for _, i := range beside(len(want.locals)) {
			if a.Paused(i) {
				t.Fatalf("Paused(%d) of %d = true", i, len(want.locals))
			}
		}
	}
}

// local, global: of both.
func local(t *testing.T, a *align.Align, want *told, i, at int) {
	t.Helper()
	if got := a.Local(i, at); got != want.has(i) {
		t.Fatalf("Local(%d, %d) of %d = %v", i, at, len(want.locals), got)
	}
	if want.has(i) {
		want.locals[i] = at
	}
}

func global(t *testing.T, a *align.Align, want *told, at int) {
	t.Helper()
	was := want.held()
	want.global = at
	is := want.held()
	free := slices.DeleteFunc(was, func(i int) bool { return slices.Contains(is, i) })
	if got := a.Global(at); !slices.Equal(got, free) {
		t.Fatalf("Global(%d) of %d = %d, want %d", at, want.locals, got, free)
	}
}

// hold: one of these locals, of which all else is Never.
func hold(t *testing.T, drift int, locals ...int) (*align.Align, *told) {
	t.Helper()
	a, want := align.New(drift, len(locals)), unknown(drift, len(locals))
	for i, at := range locals {
		local(t, a, want, i, at)
	}
	check(t, a, want)
	return a, want
}

// checkGlobal: by numbers that stand in the test.
func checkGlobal(t *testing.T, a *align.Align, at int, free, held []int) {
	t.Helper()
	if got := a.Global(at); !slices.Equal(got, free) {
		t.Fatalf("Global(%d) = %d, want %d", at, got, free)
	}
	if got := a.Held(); !slices.Equal(got, held) {
		t.Fatalf("Held behind Global(%d) = %d, want %d", at, got, held)
	}
}

// P18.1, P18.2: the document's example.
func TestTheDocumentsExample(t *testing.T) {
	a := align.New(5, 1)
	if !a.Local(0, 10) || !a.Paused(0) {
		t.Error("a local of 10 isn't Paused")
	}
	checkGlobal(t, a, 5, []int{0}, nil)
	if a.Paused(0) {
		t.Error("behind Global of 5 it is Paused")
	}
}

// P18.1: all is Never, so that none is Paused, whatever the drift.
func TestNew(t *testing.T) {
	for _, drift := range drifts {
		for n := range 20 {
			a, want := align.New(drift, n), unknown(drift, n)
			check(t, a, want)
			if got := a.Limit(); got != api.Never+drift {
				t.Fatalf("Limit of the drift %d = %d", drift, got)
			}
			checkGlobal(t, a, api.Never, nil, nil)
			checkGlobal(t, a, 0, nil, nil)
		}
	}
}

// P18.1, P18.2: of none, or of below 0, none is Paused; there is a Limit still.
func TestNoPartitions(t *testing.T) {
	for _, n := range []int{0, -1, -2, -1 << 20, math.MinInt + 1, math.MinInt} {
		a, want := align.New(5, n), unknown(5, 0)
		for _, i := range []int{math.MinInt, n, -1, 0, 1, math.MaxInt} {
			local(t, a, want, i, 100)
			check(t, a, want)
		}
		for _, at := range edges {
			global(t, a, want, at)
			check(t, a, want)
		}
	}
}

// P18.1: partitions that there aren't change nothing.
func TestPartitionsThatThereArent(t *testing.T) {
	for n := range 20 {
		a, want := align.New(3, n), unknown(3, n)
		for i := range n {
			local(t, a, want, i, i*7%5)
		}
		global(t, a, want, -1)
		for _, i := range beside(n) {
			for _, at := range []int{api.Never, -9, 2, 3, api.Most} {
				local(t, a, want, i, at)
				check(t, a, want)
			}
		}
		global(t, a, want, 0)
		check(t, a, want)
	}
}

// P18.1: the Limit is a sum that never wraps round.
func TestLimit(t *testing.T) {
	for _, drift := range drifts {
		a, want := hold(t, drift, api.Most, 0, api.Never)
		for _, at := range edges {
			global(t, a, want, at)
			check(t, a, want)
		}
	}
	for _, x := range []struct{ drift, global, limit int }{
		{0, 7, 7}, {5, 7, 12}, {5, -7, -2}, {5, -5, 0},
		{5, api.Never, api.Never + 5},
		{api.Most, api.Never, -1},
		{api.Most, 0, api.Most},
		{api.Most, 1, api.Most},
		{1, api.Most - 1, api.Most},
		{1, api.Most, api.Most},
		{api.Most, api.Most, api.Most},
	} {
		a := align.New(x.drift, 1)
		a.Global(x.global)
		if got := a.Limit(); got != x.limit {
			t.Errorf("Limit of %d and %d = %d, want %d", x.global, x.drift, got, x.limit)
		}
	}
}

// P18.1: just at the Limit one isn't Paused, and one beyond it is.
func TestPausedAtTheLimit(t *testing.T) {
	for _, drift := range drifts {
		for _, at := range edges {
			a, want := align.New(drift, 1), unknown(drift, 1)
			global(t, a, want, at)
			limit := want.limit()
			local(t, a, want, 0, limit)
			check(t, a, want)
			if a.Paused(0) {
				t.Fatalf("Paused of %d by %d", limit, limit)
			}
			if limit < api.Most {
				local(t, a, want, 0, limit+1)
				check(t, a, want)
				if !a.Paused(0) {
					t.Fatalf("%d by %d isn't Paused", limit+1, limit)
				}
			}
			if limit > api.Never {
				local(t, a, want, 0, limit-1)
				check(t, a, want)
			}
		}
	}
}

// P18.1: a local is what it was told last, so that one is Paused, and isn't, as that rises and falls.
func TestALocalMayFall(t *testing.T) {
	a, want := hold(t, 5, 0, 0, 0)
	global(t, a, want, 0)
	for _, at := range []int{6, 5, 6, 7, api.Most, api.Never, 6, 0, -1} {
		local(t, a, want, 1, at)
		check(t, a, want)
		if got := a.Paused(1); got != (at > 5) {
			t.Fatalf("Paused by the local %d = %v", at, got)
		}
	}
}

// P18.1, P18.2: of any numbers those that are Paused rise, and those that are so no more.
func TestHeldRises(t *testing.T) {
	a, _ := hold(t, 2, 9, 3, 7, 3, 8, 1, 9, 4)
	checkGlobal(t, a, 0, []int{5}, []int{0, 1, 2, 3, 4, 6, 7})
	checkGlobal(t, a, 2, []int{1, 3, 7}, []int{0, 2, 4, 6})
	checkGlobal(t, a, 4, nil, []int{0, 2, 4, 6})
	checkGlobal(t, a, 5, []int{2}, []int{0, 4, 6})
	checkGlobal(t, a, 100, []int{0, 4, 6}, nil)
}

// P18.2: one that isn't Paused any more by its Local isn't so by the Global.
func TestFreeByItsLocal(t *testing.T) {
	a, want := hold(t, 5, 20, 20, 20)
	global(t, a, want, 10)
	local(t, a, want, 1, 15)
	check(t, a, want)
	checkGlobal(t, a, 15, []int{0, 2}, nil)
	local(t, a, want, 0, 21)
	checkGlobal(t, a, 15, nil, []int{0})
	checkGlobal(t, a, 16, []int{0}, nil)
}

// P18.2: if the Global is as it was, or falls, none is free by that; there may be more that are Paused.
func TestAGlobalMayFall(t *testing.T) {
	a, _ := hold(t, 5, 10, 15, 20, 25)
	checkGlobal(t, a, 15, []int{0, 1, 2}, []int{3})
	checkGlobal(t, a, 15, nil, []int{3})
	checkGlobal(t, a, 14, nil, []int{2, 3})
	checkGlobal(t, a, 5, nil, []int{1, 2, 3})
	checkGlobal(t, a, api.Never, nil, []int{0, 1, 2, 3})
	checkGlobal(t, a, 14, []int{0, 1}, []int{2, 3})
	checkGlobal(t, a, api.Most, []int{2, 3}, nil)
}

// P18.2: the Limit counts, not the Global: from Most on it is the same, and none is above that.
func TestTheGreatestLimit(t *testing.T) {
	a, _ := hold(t, 5, api.Most, api.Most-1)
	checkGlobal(t, a, api.Most-7, nil, []int{0, 1})
	checkGlobal(t, a, api.Most-6, []int{1}, []int{0})
	checkGlobal(t, a, api.Most-5, []int{0}, nil)
	checkGlobal(t, a, api.Most, nil, nil)
	checkGlobal(t, a, api.Most-5, nil, nil)
	checkGlobal(t, a, api.Most-6, nil, []int{0})
}

// P18.1, P18.2: from each Global to each, of each Local.
func TestFromEachToEach(t *testing.T) {
	for _, drift := range drifts {
		for _, from := range edges {
			a, want := hold(t, drift, edges...)
			for _, to := range edges {
				global(t, a, want, from)
				check(t, a, want)
				global(t, a, want, to)
				check(t, a, want)
			}
		}
	}
}

// P2: an answer is new memory: what is done to it is of no matter for others, or for what comes.
func TestAnswersAreNewMemory(t *testing.T) {
	a, want := hold(t, 5, 10, 20, 30)
	one, other := a.Held(), a.Held()
	clear(one[:cap(one)])
	if !slices.Equal(other, []int{0, 1, 2}) {
		t.Errorf("when an answer was cleared, another is %d", other)
	}
	check(t, a, want)
	free := a.Global(15)
	clear(one[:cap(one)])
	clear(other[:cap(other)])
	if !slices.Equal(free, []int{0, 1}) {
		t.Errorf("when all else was cleared, an answer is %d", free)
	}
	clear(free[:cap(free)])
	want.global = 15
	check(t, a, want)
	checkGlobal(t, a, 25, []int{2}, nil)
}

// P2: Aligns have nothing in common.
func TestAlignsAreApart(t *testing.T) {
	a, ofA := hold(t, 5, 10, 20)
	b, ofB := hold(t, 5, 10, 20)
	global(t, a, ofA, 5)
	local(t, b, ofB, 1, 0)
	check(t, a, ofA)
	check(t, b, ofB)
	global(t, b, ofB, -5)
	check(t, a, ofA)
	check(t, b, ofB)
}

// P18.1, P18.2: many steps, of any number of partitions.
func TestManySteps(t *testing.T) {
	for _, n := range []int{1, 2, 3, 7, 8, 33, 100} {
		for _, drift := range []int{0, 3, 40} {
			a, want := align.New(drift, n), unknown(drift, n)
			x := uint32(n + drift)
			for range 1000 {
				x = x*1664525 + 1013904223
				if x>>30 == 0 {
					global(t, a, want, int(x>>16)%100-50)
				} else {
					local(t, a, want, int(x>>8)%n, int(x>>16)%200-80)
				}
				check(t, a, want)
			}
		}
	}
}

// P18.1, P18.2: as many partitions as are promised.
func TestTheGreatest(t *testing.T) {
	const n = 1 << 20
	a := align.New(5, n)
	if a.Local(n, 0) || a.Paused(n) || len(a.Held()) != 0 {
		t.Fatal("a partition that there isn't, or one that is Paused at the beginning")
	}
	for i := range n {
		if !a.Local(i, n-i) {
			t.Fatalf("Local(%d) = false", i)
		}
	}
	// Those whose local, n - i, is above the Limit are the first ones: as many as there are locals above it.
	held := n
	for _, at := range []int{-5, 95, n / 2, n - 5} {
		still := n - at - 5
		if l := a.Global(at); !slices.Equal(l, run(still, held)) {
			t.Fatalf("Global(%d): %d of them, want %d", at, len(l), held-still)
		}
		if l := a.Held(); !slices.Equal(l, run(0, still)) {
			t.Fatalf("Held behind Global(%d): %d of them, want %d", at, len(l), still)
		}
		held = still
	}
}

// run: all numbers from one on, to ahead of another.
func run(from, to int) []int {
	var l []int
	for i := from; i < to; i++ {
		l = append(l, i)
	}
	return l
}

// P1: of more partitions than are promised, and of drifts below 0, each call ends.
func TestWhatIsNotPromised(t *testing.T) {
	for _, n := range []int{3, 1<<20 + 1, 1 << 31, 1 << 40, 1 << 62, math.MaxInt} {
		for _, drift := range []int{5, -1, -1000, math.MinInt + 1, math.MinInt} {
			a := align.New(drift, n)
			for _, i := range []int{math.MinInt, -1, 0, 1, 1<<20 - 1, 1 << 20, n - 1, n, math.MaxInt} {
				a.Local(i, i)
				a.Paused(i)
			}
			for _, at := range []int{math.MinInt, -1, 0, math.MaxInt} {
				a.Global(at)
				a.Limit()
				a.Held()
			}
		}
	}
}

// P1, P18.1, P18.2: any steps, a byte of the partition, and 8 of the number each.
func FuzzAlign(f *testing.F) {
	f.Add(5, 3, []byte("any of these, and those, and all of them"))
	f.Add(5, 1, []byte("\x01\x00\x00\x00\x00\x00\x00\x00\x0A\xFF\x00\x00\x00\x00\x00\x00\x00\x05"))
	f.Add(0, -1, []byte("\x01\xFF\xFF\xFF\xFF\xFF\xFF\xFF\xFF"))
	f.Fuzz(func(t *testing.T, drift, n int, l []byte) {
		drift, n = max(drift, 0), min(max(n, -1), 100)
		a, want := align.New(drift, n), unknown(drift, n)
		check(t, a, want)
		for ; len(l) >= 9; l = l[9:] {
			i, at := int(l[0])-1, int(binary.BigEndian.Uint64(l[1:]))
			if i >= 127 {
				global(t, a, want, at)
			} else {
				local(t, a, want, i, at)
			}
			check(t, a, want)
		}
	})
}
