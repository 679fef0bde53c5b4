package ring_test

import (
	"math"
	"slices"
	"testing"

	"tidewaiter/ring"
)

// checkRing: has a ring just these things, the eldest first, and just this room?
func checkRing[T comparable](t *testing.T, r *ring.Ring[T], room int, want []T) {
	t.Helper()
	if r.Len() != len(want) || r.Room() != room {
		t.Fatalf("Len = %d, Room = %d, want %d, %d", r.Len(), r.Room(), len(want), room)
	}
	if got := r.All(); !slices.Equal(got, want) {
		t.Fatalf("All = %v, want %v", got, want)
	}
	for i, x := range want {
		if got, ok := r.At(i); got != x || !ok {
			t.Fatalf("At(%d) = %v, %v, want %v", i, got, ok, x)
		}
	}
	var none T
	for _, i := range []int{math.MinInt, -len(want) - 1, -len(want), -2, -1, len(want), len(want) + 1, 2*len(want) + 1, room + len(want), math.MaxInt} {
		if got, ok := r.At(i); got != none || ok {
			t.Fatalf("At(%d) of %d things = %v, %v", i, len(want), got, ok)
		}
	}
}

// push: does a ring give up what came room pushes ago, and nothing as long as there is room?
func push[T comparable](t *testing.T, r *ring.Ring[T], there []T, x T, room int) []T {
	t.Helper()
	var want T
	full := len(there) == room
	if full {
		want, there = there[0], there[1:]
	}
	if gone, is := r.Push(x); gone != want || is != full {
		t.Fatalf("Push(%v) = %v, %v, want %v, %v", x, gone, is, want, full)
	}
	return append(there, x)
}

// P7.1: the document's example.
func TestTheDocumentsExample(t *testing.T) {
	r := ring.New[int](2)
	for _, n := range []int{1, 2} {
		if gone, is := r.Push(n); gone != 0 || is {
			t.Errorf("Push(%d) = %d, %v", n, gone, is)
		}
	}
	if gone, is := r.Push(3); gone != 1 || !is {
		t.Errorf("Push(3) = %d, %v, want 1, true", gone, is)
	}
	checkRing(t, r, 2, []int{2, 3})
}

// P7.1, P7.2: of each room what came last is there, some times round, asked behind each Push.
func TestWhatCameLast(t *testing.T) {
	for _, room := range []int{1, 2, 3, 4, 5, 7, 8, 9, 16, 33, 100} {
		r := ring.New[int](room)
		var there []int
		checkRing(t, r, room, there)
		for i := range 4*room + 3 {
			there = push(t, r, there, i*i-50, room)
			checkRing(t, r, room, there)
		}
	}
}

// P7.1: room for one, if room is below 1; no memory for what has not come.
func TestRoom(t *testing.T) {
	for _, room := range []int{1, 0, -1, -2, -100, math.MinInt} {
		r := ring.New[string](room)
		checkRing(t, r, 1, nil)
		there := push(t, r, nil, "a", 1)
		there = push(t, r, there, "b", 1)
		checkRing(t, r, 1, there)
	}
	for _, room := range []int{1 << 20, 1<<20 + 1, math.MaxInt} {
		r := ring.New[[1 << 10]int](room)
		there := push(t, r, nil, [1 << 10]int{1}, room)
		there = push(t, r, there, [1 << 10]int{2}, room)
		checkRing(t, r, room, there)
	}
}

// P7.1, P7.2: the greatest room that is promised, more than once round.
func TestTheGreatestRoom(t *testing.T) {
	const room = 1 << 20
	r := ring.New[int](room)
	for i := range room {
		if gone, is := r.Push(i); gone != 0 || is || r.Len() != i+1 {
			t.Fatalf("Push %d = %d, %v; Len = %d", i, gone, is, r.Len())
		}
	}
	for i := range room + room/2 {
		if gone, is := r.Push(room + i); gone != i || !is || r.Len() != room {
			t.Fatalf("Push %d = %d, %v; Len = %d", room+i, gone, is, r.Len())
		}
	}
	for i, n := range r.All() {
		if got, ok := r.At(i); n != i+room+room/2 || got != n || !ok {
			t.Fatalf("All has %d at %d, At %d, %v", n, i, got, ok)
		}
	}
}

// P7.1, P7.2: the zero one and the same one more than once are things as others are.
func TestZeroesAndTheSame(t *testing.T) {
	r := ring.New[string](3)
	var there []string
	for _, s := range []string{"", "", "a", "", "a", "a", "a", "b", "", "", "", ""} {
		there = push(t, r, there, s, 3)
		checkRing(t, r, 3, there)
	}
}

// P7.2: things are answered as they were handed in, not as others that are the same.
func TestThingsThemselves(t *testing.T) {
	a, b, c := new(int), new(int), new(int)
	pointers := ring.New[*int](2)
	var there []*int
	for _, p := range []*int{a, b, nil, c, a} {
		there = push(t, pointers, there, p, 2)
		checkRing(t, pointers, 2, there)
	}
	lists := ring.New[[]int](1)
	one := make([]int, 3, 8)
	lists.Push(one)
	if got, ok := lists.At(0); !ok || len(got) != 3 || cap(got) != 8 || &got[0] != &one[0] {
		t.Errorf("At(0) = %v, %v", got, ok)
	}
	if got := lists.All(); len(got) != 1 || &got[0][0] != &one[0] {
		t.Errorf("All = %v", got)
	}
	if gone, is := lists.Push(nil); !is || &gone[0] != &one[0] {
		t.Errorf("Push = %v, %v", gone, is)
	}
	if gone, is := lists.Push(one); !is || gone != nil {
		t.Errorf("Push = %v, %v, want the nil list", gone, is)
	}
	if got, ok := ring.New[[]int](2).At(0); ok || got != nil {
		t.Errorf("At(0) of nothing = %v, %v", got, ok)
	}
	things := ring.New[any](2)
	for _, x := range []any{1, "1", nil} {
		things.Push(x)
	}
	if got := things.All(); len(got) != 2 || got[0] != "1" || got[1] != nil {
		t.Errorf("All = %v", got)
	}
}

// P2: All is a list of its own, with its spare room; asking changes nothing.
func TestAnswersAreNew(t *testing.T) {
	for pushes := range 12 {
		r := ring.New[int](5)
		var there []int
		for i := range pushes {
			there = push(t, r, there, i+1, 5)
		}
		one, other := r.All(), r.All()
		clear(one[:cap(one)])
		if !slices.Equal(other, there) {
			t.Errorf("behind %d pushes an answer is %v, when another was cleared", pushes, other)
		}
		checkRing(t, r, 5, there)
		other = append(other[:0], 9, 9, 9, 9, 9, 9)
		checkRing(t, r, 5, there)
		kept := r.All()
		r.Push(99)
		if !slices.Equal(kept, there) {
			t.Errorf("behind %d pushes an answer is %v, when one more came", pushes, kept)
		}
	}
}

// P2: rings have nothing in common.
func TestRingsAreApart(t *testing.T) {
	a, b := ring.New[int](2), ring.New[int](3)
	var ofA, ofB []int
	for i := range 9 {
		ofA = push(t, a, ofA, i, 2)
		ofB = push(t, b, ofB, -i, 3)
		checkRing(t, a, 2, ofA)
		checkRing(t, b, 3, ofB)
	}
}

// P1, P7.1, P7.2: any bytes, of any room.
func FuzzRing(f *testing.F) {
	f.Add(2, []byte{1, 2, 3})
	f.Add(0, []byte{0, 0})
	f.Add(-7, []byte("some of these"))
	f.Add(math.MaxInt, []byte("all of these"))
	f.Fuzz(func(t *testing.T, room int, l []byte) {
		r := ring.New[byte](room)
		room = max(room, 1)
		var there []byte
		for _, b := range l {
			there = push(t, r, there, b, room)
			if i := int(b) - 128; i >= 0 && i < len(there) {
				if got, ok := r.At(i); got != there[i] || !ok {
					t.Fatalf("At(%d) = %d, %v, want %d", i, got, ok, there[i])
				}
			}
		}
		checkRing(t, r, room, there)
	})
}
