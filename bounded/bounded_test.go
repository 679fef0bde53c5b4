package bounded_test

import (
	"encoding/binary"
	"math/big"
	"testing"

	"tidewaiter/api"
	"tidewaiter/bounded"
)

// times: of records, at both ends and about 0, rising.
var times = []int{
	api.Least, api.Least + 1, api.Least + 2, api.Least + 4, api.Least + 11, api.Least / 2,
	-1000, -2, -1, 0, 1, 2, 1000,
	api.Most / 2, api.Most - 11, api.Most - 1, api.Most,
}

// bounds: those that are promised, from 0 on.
var bounds = []int{0, 1, 2, 3, 10, 1000, api.Most / 2, api.Most/2 + 1, api.Most - 2, api.Most - 1, api.Most}

// after: by whole numbers of any size; what is below Least is Least, and above Most is none.
func after(most, bound int) int {
	n := new(big.Int).Sub(big.NewInt(int64(most)), big.NewInt(int64(bound)))
	n.Sub(n, big.NewInt(1))
	if n.Cmp(big.NewInt(api.Least)) < 0 {
		return api.Least
	}
	return int(n.Int64())
}

// at: a record of that time.
func at(time int) api.Record { return api.Record{Kind: api.Data, Time: time} }

// of: a Gen of that bound that has seen records of these times.
func of(bound int, l ...int) *bounded.Gen {
	g := bounded.New(bound)
	for _, time := range l {
		g.Seen(at(time))
	}
	return g
}

func checkGen(t *testing.T, g *bounded.Gen, bound, now int) {
	t.Helper()
	// Twice, as asking changes nothing.
	for range 2 {
		if got := g.Now(); got != now {
			t.Fatalf("of the bound %d Now = %d, want %d", bound, got, now)
		}
		if got := g.Bound(); got != bound {
			t.Fatalf("Bound = %d, want %d", got, bound)
		}
	}
}

// checkSeen: records of these times, one behind the other, asked behind each.
func checkSeen(t *testing.T, bound int, l []int) {
	t.Helper()
	g := bounded.New(bound)
	checkGen(t, g, bound, api.Never)
	var most int
	for i, time := range l {
		g.Seen(at(time))
		if i == 0 || time > most {
			most = time
		}
		checkGen(t, g, bound, after(most, bound))
	}
}

// P10.1: the document's example.
func TestTheDocumentsExample(t *testing.T) {
	checkGen(t, of(3, 10), 3, 6)
	checkGen(t, of(3, 10, 8), 3, 6)
}

// P10.1: ordinary numbers, and at the ends, just there and one beside.
func TestAfter(t *testing.T) {
	for _, x := range []struct{ most, bound, want int }{
		{10, 3, 6},
		{0, 0, -1},
		{5, 0, 4},
		{-5, 7, -13},
		{api.Most, 0, api.Most - 1},
		{api.Most, api.Most, -1},
		{api.Most, 3, api.Most - 4},
		{api.Least, 0, api.Least},
		{api.Least + 1, 0, api.Least},
		{api.Least + 2, 0, api.Least + 1},
		{api.Least + 5, 2, api.Least + 2},
		{api.Least + 3, 2, api.Least},
		{api.Least + 2, 2, api.Least},
		{api.Least + 1, 2, api.Least},
		{api.Least, api.Most, api.Least},
		{-5, api.Most, api.Least},
		{-1, api.Most, api.Least},
		{0, api.Most, api.Least},
		{1, api.Most, api.Least + 1},
	} {
		if got := bounded.After(x.most, x.bound); got != x.want {
			t.Errorf("After(%d, %d) = %d, want %d", x.most, x.bound, got, x.want)
		}
	}
	for _, most := range times {
		for _, bound := range bounds {
			if got, want := bounded.After(most, bound), after(most, bound); got != want {
				t.Errorf("After(%d, %d) = %d, want %d", most, bound, got, want)
			}
		}
	}
}

// P10.1: of each bound; nothing is known as long as none was seen.
func TestNew(t *testing.T) {
	for _, bound := range bounds {
		checkGen(t, bounded.New(bound), bound, api.Never)
	}
}

// P10.1: in any order the latest one counts, also those that are below 0, or the same.
func TestSeen(t *testing.T) {
	for _, l := range [][]int{
		{10, 8},
		{8, 10},
		{10, 8, 11, -100, 11, 12, 12, 5},
		{-5, -9, -5, -1, 0, 1},
		{0, 0, 0},
		{1, 2, 3, 4, 5},
		{5, 4, 3, 2, 1},
		{api.Least, api.Least + 1, api.Least + 2, api.Least + 20},
		{api.Most, api.Most - 1, 0, api.Least, api.Most},
		{api.Least, api.Most, api.Least},
		times,
	} {
		for _, bound := range bounds {
			checkSeen(t, bound, l)
		}
	}
}

// P10.1: each two times, by each bound.
func TestSeenOfEachTwo(t *testing.T) {
	for _, bound := range bounds {
		for _, a := range times {
			for _, b := range times {
				checkSeen(t, bound, []int{a, b})
			}
		}
	}
}

// P10.1: a record so early that its bound is below all numbers tells nothing, and doesn't stand in the way of others.
func TestBelowAllNumbers(t *testing.T) {
	g := of(10, api.Least+4)
	checkGen(t, g, 10, api.Never)
	g.Seen(at(api.Least + 11))
	checkGen(t, g, 10, api.Never)
	g.Seen(at(api.Least + 12))
	checkGen(t, g, 10, api.Never+1)
	g.Seen(at(api.Least))
	checkGen(t, g, 10, api.Never+1)
}

// P10.1: records of each kind and text count, by their Time alone.
func TestKindsAndTextsAreOfNoMatter(t *testing.T) {
	for i, kind := range []int{api.Data, api.Punct, 0, -1, 3, api.Least, api.Most} {
		for j, text := range []string{"", "!", "99", "\xFF\x00"} {
			g := bounded.New(2)
			g.Seen(api.Record{Kind: kind, Time: 10 + i, Text: text})
			checkGen(t, g, 2, 7+i)
			g.Seen(api.Record{Kind: kind, Time: 10 + i - j, Text: text})
			checkGen(t, g, 2, 7+i)
			g.Seen(api.Record{Kind: kind, Time: 20 + j, Text: text})
			checkGen(t, g, 2, 17+j)
		}
	}
}

// P2: Gens have nothing in common.
func TestGensAreApart(t *testing.T) {
	a, b, same := bounded.New(1), bounded.New(5), bounded.New(1)
	a.Seen(at(10))
	checkGen(t, b, 5, api.Never)
	checkGen(t, same, 1, api.Never)
	b.Seen(at(100))
	checkGen(t, a, 1, 8)
	checkGen(t, b, 5, 94)
	checkGen(t, same, 1, api.Never)
}

// P1: bounds below 0 end and don't panic (what is answered then isn't promised).
func TestWrongBounds(t *testing.T) {
	for _, bound := range []int{-1, -2, -1000, api.Least / 2, api.Least + 1, api.Least} {
		g := bounded.New(bound)
		g.Now()
		for _, time := range times {
			bounded.After(time, bound)
			g.Seen(at(time))
			g.Now()
			g.Bound()
		}
	}
}

// P10.1: many records, all of which count.
func TestManyRecords(t *testing.T) {
	g := bounded.New(7)
	const many = 1000000
	for i := range many {
		g.Seen(at(i * 7919 % many))
	}
	checkGen(t, g, 7, many-1-7-1)
}

// P1, P10.1: any bound, and any times, 8 bytes each.
func FuzzGen(f *testing.F) {
	f.Add(3, []byte("any of these, and those"))
	f.Add(api.Most, []byte("\x80\x00\x00\x00\x00\x00\x00\x00\x00\x00\x00\x00\x00\x00\x00\x00\x7F\xFF\xFF\xFF\xFF\xFF\xFF\xFF"))
	f.Add(-1, []byte("of no promise"))
	f.Fuzz(func(t *testing.T, bound int, b []byte) {
		var l []int
		for ; len(b) >= 8; b = b[8:] {
			l = append(l, int(binary.BigEndian.Uint64(b)))
		}
		if bound < 0 {
			of(bound, l...).Now()
			return
		}
		checkSeen(t, bound, l)
	})
}
