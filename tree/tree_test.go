package tree_test

import (
	"encoding/binary"
	"math"
	"testing"

	"tidewaiter/tree"
)

// numbers: a tree by the words of the chapter: each of them is looked at.
type numbers struct {
	keys []int
	out  []bool
}

func none(n int) *numbers {
	return &numbers{keys: make([]int, max(n, 0)), out: make([]bool, max(n, 0))}
}

func (m *numbers) least() (key, place int, ok bool) {
	for i, k := range m.keys {
		if !m.out[i] && (!ok || k < key) {
			key, place, ok = k, i, true
		}
	}
	return key, place, ok
}

func checkLeast(t *testing.T, r *tree.Tree, key, place int, ok bool) {
	t.Helper()
	// Twice, as asking changes nothing.
	for range 2 {
		k, i, is := r.Least()
		if k != key || i != place || is != ok {
			t.Fatalf("Least of %d = %d, %d, %v, want %d, %d, %v", r.Len(), k, i, is, key, place, ok)
		}
	}
}

// checkTree: all that can be asked of one, also of places that there aren't.
func checkTree(t *testing.T, r *tree.Tree, m *numbers) {
	t.Helper()
	if r.Len() != len(m.keys) {
		t.Fatalf("Len = %d, want %d", r.Len(), len(m.keys))
	}
	for i, k := range m.keys {
		if got := r.Key(i); got != k {
			t.Fatalf("Key(%d) = %d, want %d", i, got, k)
		}
	}
	for _, i := range beside(len(m.keys)) {
		if got := r.Key(i); got != 0 {
			t.Fatalf("Key(%d) = %d, want 0", i, got)
		}
	}
	key, place, ok := m.least()
	checkLeast(t, r, key, place, ok)
}

// beside: places that n numbers don't have.
func beside(n int) []int {
	return []int{math.MinInt, math.MinInt + 1, -n - 1, -n, -2, -1, n, n + 1, 2*n + 1, 1 << 32, math.MaxInt - n, math.MaxInt}
}

// has: such a place?
func (m *numbers) has(i int) bool { return i >= 0 && i < len(m.keys) }

// set, leave: of both.
func set(t *testing.T, r *tree.Tree, m *numbers, i, key int) {
	t.Helper()
	if got := r.Set(i, key); got != m.has(i) {
		t.Fatalf("Set(%d, %d) of %d = %v", i, key, len(m.keys), got)
	}
	if m.has(i) {
		m.keys[i] = key
	}
}

func leave(t *testing.T, r *tree.Tree, m *numbers, i int, out bool) {
	t.Helper()
	if got := r.Leave(i, out); got != m.has(i) {
		t.Fatalf("Leave(%d, %v) of %d = %v", i, out, len(m.keys), got)
	}
	if m.has(i) {
		m.out[i] = out
	}
}

// hold: a tree of these numbers.
func hold(t *testing.T, keys ...int) (*tree.Tree, *numbers) {
	t.Helper()
	r, m := tree.New(len(keys)), none(len(keys))
	for i, k := range keys {
		set(t, r, m, i, k)
		checkTree(t, r, m)
	}
	return r, m
}

// P16.1, P16.2: the document's example.
func TestTheDocumentsExample(t *testing.T) {
	r, m := hold(t, 5, 3, 3)
	checkLeast(t, r, 3, 1, true)
	leave(t, r, m, 1, true)
	checkLeast(t, r, 3, 2, true)
}

// P16.1, P16.2: n numbers 0, none of them left out: the least one is the first.
func TestNew(t *testing.T) {
	for n := range 70 {
		r := tree.New(n)
		checkTree(t, r, none(n))
		if n > 0 {
			checkLeast(t, r, 0, 0, true)
		}
		for i := range n {
			if !r.Leave(i, true) {
				t.Errorf("Leave(%d) of %d = false", i, n)
			}
			if i < n-1 {
				checkLeast(t, r, 0, i+1, true)
			}
		}
		checkLeast(t, r, 0, 0, false)
	}
}

// P16.1, P16.2: of none, or of below 0, there is nothing.
func TestNoNumbers(t *testing.T) {
	for _, n := range []int{0, -1, -2, -3, -1 << 20, math.MinInt + 1, math.MinInt} {
		r := tree.New(n)
		for _, i := range []int{math.MinInt, n, -1, 0, 1, math.MaxInt} {
			if r.Set(i, -1) || r.Leave(i, true) || r.Leave(i, false) || r.Key(i) != 0 {
				t.Errorf("New(%d) has the place %d", n, i)
			}
		}
		checkTree(t, r, none(n))
		checkLeast(t, r, 0, 0, false)
	}
}

// P16.1: places that there aren't change nothing, whatever the numbers are.
func TestPlacesThatThereArent(t *testing.T) {
	for n := range 20 {
		r, m := tree.New(n), none(n)
		for i := range n {
			set(t, r, m, i, 100+i*7%5)
			leave(t, r, m, i, i%3 == 1)
		}
		for _, i := range beside(n) {
			set(t, r, m, i, -9)
			checkTree(t, r, m)
			leave(t, r, m, i, true)
			checkTree(t, r, m)
			leave(t, r, m, i, false)
			checkTree(t, r, m)
		}
	}
}

// P16.1, P16.2: each number goes to each place, of trees of any form.
func TestTheLeastAtEachPlace(t *testing.T) {
	for n := range 40 {
		r, m := tree.New(n), none(n)
		for i := range n {
			set(t, r, m, i, 10*i+5)
		}
		for i := range n {
			for _, key := range []int{-1, math.MinInt, 5, 15, 10*n - 5, 10 * n, math.MaxInt, 10*i + 5} {
				set(t, r, m, i, key)
				checkTree(t, r, m)
			}
		}
	}
}

// P16.2: of like ones the least place, whichever of them are left out.
func TestLikeOnes(t *testing.T) {
	for n := 1; n < 40; n++ {
		for _, key := range []int{math.MinInt, -3, 0, 3, math.MaxInt} {
			r, m := tree.New(n), none(n)
			for i := range n {
				set(t, r, m, n-1-i, key)
			}
			for i := range n {
				leave(t, r, m, i, true)
				checkTree(t, r, m)
			}
			for i := range n {
				leave(t, r, m, (i*7+3)%n, false)
				checkTree(t, r, m)
			}
		}
	}
}

// P16.2: all choices of those that are left out, of few numbers.
func TestAllThatAreLeftOut(t *testing.T) {
	for _, keys := range [][]int{
		{7},
		{0, 0},
		{2, 1},
		{3, 3, 1},
		{5, 3, 3, 4},
		{7, 3, 9, 3, 8},
		{-1, -1, -2, 0, -2, -1},
		{math.MaxInt, math.MinInt, math.MaxInt, math.MinInt, 0, -1, 1},
		{8, 7, 6, 5, 4, 3, 2, 1},
		{1, 2, 1, 2, 1, 2, 1, 2, 1},
	} {
		r, m := hold(t, keys...)
		for bits := range 1 << len(keys) {
			for i := range keys {
				leave(t, r, m, i, bits>>i&1 == 1)
			}
			checkTree(t, r, m)
		}
	}
}

// P16.1, P16.2: one that is left out has a number still, and may have another one; it doesn't come back by that.
func TestSetOfOneLeftOut(t *testing.T) {
	for n := 1; n < 20; n++ {
		r, m := tree.New(n), none(n)
		for i := range n {
			set(t, r, m, i, 50+i)
			leave(t, r, m, i, true)
			checkTree(t, r, m)
			set(t, r, m, i, -i)
			checkTree(t, r, m)
		}
		checkLeast(t, r, 0, 0, false)
		for i := range n {
			leave(t, r, m, i, false)
			checkTree(t, r, m)
			checkLeast(t, r, -i, i, true)
		}
	}
}

// P16.1: to be left out twice, or not to be twice, is as once.
func TestLeaveTwice(t *testing.T) {
	r, m := hold(t, 4, 2, 6, 2, 8)
	for _, out := range []bool{false, true, true, false, false} {
		for _, i := range []int{1, 3, 0} {
			leave(t, r, m, i, out)
			leave(t, r, m, i, out)
			checkTree(t, r, m)
		}
	}
}

// P16.2: the ends of numbers are numbers as others are, left out or not.
func TestTheEndsOfNumbers(t *testing.T) {
	r, m := hold(t, math.MaxInt, math.MaxInt, math.MaxInt)
	checkLeast(t, r, math.MaxInt, 0, true)
	set(t, r, m, 2, math.MinInt)
	checkLeast(t, r, math.MinInt, 2, true)
	set(t, r, m, 0, math.MinInt)
	checkLeast(t, r, math.MinInt, 0, true)
	leave(t, r, m, 0, true)
	leave(t, r, m, 2, true)
	checkLeast(t, r, math.MaxInt, 1, true)
	leave(t, r, m, 1, true)
	checkLeast(t, r, 0, 0, false)
}

// P2: trees have nothing in common.
func TestTreesAreApart(t *testing.T) {
	a, ofA := hold(t, 3, 1, 2)
	b, ofB := hold(t, 3, 1, 2)
	set(t, a, ofA, 0, -7)
	leave(t, b, ofB, 1, true)
	checkTree(t, a, ofA)
	checkTree(t, b, ofB)
	checkLeast(t, a, -7, 0, true)
	checkLeast(t, b, 2, 2, true)
}

// P16.1, P16.2: many steps, of trees of many forms, in no order.
func TestManySteps(t *testing.T) {
	for _, n := range []int{1, 2, 3, 6, 7, 8, 9, 15, 16, 17, 31, 33, 100, 127, 128, 129} {
		r, m := tree.New(n), none(n)
		x := uint32(n)
		for range 3000 {
			x = x*1664525 + 1013904223
			i := int(x>>8) % n
			switch x >> 28 {
			case 0, 1, 2, 3, 4:
				leave(t, r, m, i, true)
			case 5, 6, 7:
				leave(t, r, m, i, false)
			default:
				set(t, r, m, i, int(x>>16)%9-4)
			}
			key, place, ok := m.least()
			checkLeast(t, r, key, place, ok)
		}
		checkTree(t, r, m)
	}
}

// P16.1, P16.2: the greatest tree that is promised, with as many steps.
func TestTheGreatest(t *testing.T) {
	for _, n := range []int{1 << 20, 1<<20 - 1} {
		r := tree.New(n)
		if r.Len() != n || r.Set(n, 0) || r.Leave(n, true) {
			t.Fatalf("Len = %d", r.Len())
		}
		for i := range n {
			// 7919 is a prime, and divides none of these n, so that all numbers are there once.
			if !r.Set(i, i*7919%n) {
				t.Fatalf("Set(%d) = false", i)
			}
		}
		for k := range n {
			key, place, ok := r.Least()
			if key != k || place*7919%n != k || !ok || r.Key(place) != k || !r.Leave(place, true) {
				t.Fatalf("Least = %d, %d, %v, want %d", key, place, ok, k)
			}
		}
		checkLeast(t, r, 0, 0, false)
	}
}

// P1: of more numbers than are promised, each call ends.
func TestMoreThanThat(t *testing.T) {
	for _, n := range []int{1<<20 + 1, 1 << 31, 1 << 40, 1 << 62, math.MaxInt/2 + 1, math.MaxInt - 1, math.MaxInt} {
		r := tree.New(n)
		r.Len()
		for _, i := range []int{math.MinInt, -1, 0, 1, 1<<20 - 1, 1 << 20, n - 1, n, math.MaxInt} {
			r.Set(i, -1)
			r.Leave(i, true)
			r.Key(i)
			r.Least()
		}
	}
}

// P1, P16.1, P16.2: any steps, a byte of the place and 8 of the number each.
func FuzzTree(f *testing.F) {
	f.Add(3, []byte("any of these, and those, and all of them"))
	f.Add(7, []byte("\x00\x00\x00\x00\x00\x00\x00\x00\x05\x81\x00\x00\x00\x00\x00\x00\x00\x01"))
	f.Add(-1, []byte("\x01\xFF\xFF\xFF\xFF\xFF\xFF\xFF\xFF"))
	f.Fuzz(func(t *testing.T, n int, l []byte) {
		n = min(n, 200)
		r, m := tree.New(n), none(n)
		checkTree(t, r, m)
		for ; len(l) >= 9; l = l[9:] {
			i, key := int(l[0]), int(binary.BigEndian.Uint64(l[1:]))
			if i >= 128 {
				leave(t, r, m, i-129, key%2 != 0)
			} else {
				set(t, r, m, i-1, key)
			}
			checkTree(t, r, m)
		}
	})
}
