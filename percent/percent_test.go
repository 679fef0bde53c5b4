package percent_test

import (
	"encoding/binary"
	"math/big"
	"testing"

	"tidewaiter/api"
	"tidewaiter/percent"
)

// times: of records, at both ends and about 0.
var times = []int{
	api.Least, api.Least + 1, api.Least + 2, api.Least / 2, -1000, -1, 0, 1, 1000, api.Most / 2, api.Most - 2, api.Most - 1, api.Most,
}

// percents: of those that are promised, 0 to 100, both ends and some between.
var percents = []int{0, 1, 10, 33, 34, 49, 50, 51, 66, 67, 75, 90, 99, 100}

// windows: of those that are promised, 1 to 2^20, both ends and some between.
var windows = []int{1, 2, 3, 4, 5, 7, 10, 4096, 1<<20 - 1, 1 << 20}

// less: layer 1's Sub, by whole numbers of any size.
func less(a, b int) int {
	n := new(big.Int).Sub(big.NewInt(int64(a)), big.NewInt(int64(b)))
	if n.Cmp(big.NewInt(api.Least)) < 0 {
		return api.Least
	}
	if n.Cmp(big.NewInt(api.Most)) > 0 {
		return api.Most
	}
	return int(n.Int64())
}

// percentOf: the least of lags than which at least so many of a hundred are no greater, by counting them for each.
func percentOf(lags []int, p int) int {
	least, is := 0, false
	for _, n := range lags {
		noGreater := 0
		for _, m := range lags {
			if m <= n {
				noGreater++
			}
		}
		if 100*noGreater >= p*len(lags) && (!is || n < least) {
			least, is = n, true
		}
	}
	return least
}

// seen: what there is behind records of some times: all their lags, the latest time, and what Now should be.
type seen struct {
	lags      []int
	most, now int
}

// next: one more; how great Lag should be then.
func (s *seen) next(time, p, window int) int {
	if len(s.lags) == 0 {
		s.most, s.now = time, api.Never
	}
	s.most = max(s.most, time)
	s.lags = append(s.lags, less(s.most, time))
	lag := percentOf(s.lags[max(0, len(s.lags)-window):], p)
	s.now = max(s.now, less(less(s.most, lag), 1))
	return lag
}

// at: a record of that time.
func at(time int) api.Record { return api.Record{Kind: api.Data, Time: time} }

func checkGen(t *testing.T, g *percent.Gen, lag, now int) {
	t.Helper()
	// Twice, as asking changes nothing.
	for range 2 {
		if got := g.Lag(); got != lag {
			t.Fatalf("Lag = %d, want %d", got, lag)
		}
		if got := g.Now(); got != now {
			t.Fatalf("Now = %d, want %d", got, now)
		}
	}
}

// checkSeen: records of these times, one behind the other, asked behind each.
func checkSeen(t *testing.T, p, window int, l []int) {
	t.Helper()
	g := percent.New(p, window)
	checkGen(t, g, 0, api.Never)
	var s seen
	for i, time := range l {
		g.Seen(at(time))
		lag := s.next(time, p, window)
		if g.Lag() != lag || g.Now() != s.now {
			t.Fatalf("of %d and the window %d, behind %d: Lag = %d, want %d, Now = %d, want %d", p, window, l[:i+1], g.Lag(), lag, g.Now(), s.now)
		}
	}
}

// step: a record's time, and Lag and Now behind it.
type step struct{ time, lag, now int }

func checkSteps(t *testing.T, p, window int, steps ...step) {
	t.Helper()
	g := percent.New(p, window)
	checkGen(t, g, 0, api.Never)
	for _, x := range steps {
		g.Seen(at(x.time))
		checkGen(t, g, x.lag, x.now)
	}
}

// P12.1: the document's example.
func TestTheDocumentsExample(t *testing.T) {
	checkSteps(t, 100, 2, step{10, 0, 9}, step{8, 2, 9}, step{11, 2, 9})
}

// P12.1: known records: how many of a hundred, and of how many.
func TestKnownRecords(t *testing.T) {
	// Of one: each record's own lag, and none of the latest.
	checkSteps(t, 100, 1, step{10, 0, 9}, step{4, 6, 9}, step{12, 0, 11}, step{11, 1, 11}, step{13, 0, 12})
	// Of the last three: a great lag counts until three have come behind it.
	checkSteps(t, 100, 3,
		step{10, 0, 9}, step{4, 6, 9}, step{6, 6, 9}, step{20, 6, 13}, step{20, 4, 15}, step{20, 0, 19}, step{1, 19, 19})
	// None of a hundred: the least lag, which need not be 0.
	checkSteps(t, 0, 2, step{10, 0, 9}, step{5, 0, 9}, step{3, 5, 9}, step{7, 3, 9}, step{12, 0, 11})
	// A half, of one number and of many: the lower one in the middle.
	checkSteps(t, 50, 4, step{10, 0, 9}, step{6, 0, 9}, step{7, 3, 9}, step{9, 1, 9}, step{20, 1, 18}, step{18, 1, 18})
	// A lag is what it was when its record came, even if a later record is behind it.
	checkSteps(t, 100, 5, step{0, 0, -1}, step{-2, 2, -1}, step{100, 2, 97}, step{200, 2, 197}, step{199, 2, 197}, step{300, 2, 297}, step{400, 1, 398})
}

// P12.1: the latest time is that of all records, also of those that are behind the window.
func TestTheLatestIsBehindTheWindow(t *testing.T) {
	checkSteps(t, 100, 2,
		step{100, 0, 99}, step{50, 50, 99}, step{60, 50, 99}, step{70, 40, 99}, step{99, 30, 99}, step{100, 1, 99},
		step{100, 0, 99}, step{101, 0, 100})
}

// P12.1: Now doesn't fall when the lag grows, and rises as soon as it is greater again.
func TestNowIsTheGreatestThatItWas(t *testing.T) {
	checkSteps(t, 100, 3,
		step{10, 0, 9}, step{11, 0, 10}, step{1, 10, 10}, step{20, 10, 10}, step{21, 10, 10}, step{22, 0, 21})
}

// P12.1: nothing is known as long as none was seen.
func TestNew(t *testing.T) {
	for p := range 101 {
		for _, window := range windows {
			checkGen(t, percent.New(p, window), 0, api.Never)
		}
	}
}

// P12.1: in any order, by each part of a hundred and each window, also times below 0, and the same ones.
func TestSeen(t *testing.T) {
	for _, l := range [][]int{
		{10, 8, 11},
		{8, 10},
		{10, 8, 11, -100, 11, 12, 12, 5, 13, 40, 39, 38, 37, 36},
		{-5, -9, -5, -1, 0, 1, -30, 2, 3, 4},
		{0, 0, 0, 0, 0, 0},
		{1, 2, 3, 4, 5, 6, 7, 8, 9},
		{9, 8, 7, 6, 5, 4, 3, 2, 1},
		{api.Least, api.Least + 1, api.Least + 2, api.Least + 20},
		{api.Least + 20, api.Least + 2, api.Least + 1, api.Least, api.Least + 21},
		{api.Most, api.Most - 1, 0, api.Least, api.Most, api.Most},
		{api.Least, api.Most, api.Least, 0, api.Most},
		times,
	} {
		for _, p := range percents {
			for _, window := range windows {
				checkSeen(t, p, window, l)
			}
		}
	}
}

// P12.1: a hundred and some records, by every part of a hundred: a record more or less of these is another lag.
func TestEveryPercent(t *testing.T) {
	var mixed, falling []int
	for i := range 130 {
		mixed = append(mixed, 1000+i-i*37%101)
		falling = append(falling, 1000-i)
	}
	for p := range 101 {
		for _, window := range []int{1, 3, 99, 100, 101, 129, 130, 131} {
			checkSeen(t, p, window, mixed)
			checkSeen(t, p, window, falling)
		}
	}
}

// P12.1: each three of the times.
func TestSeenOfEachThree(t *testing.T) {
	for _, p := range []int{0, 34, 50, 100} {
		for _, window := range []int{1, 2, 3} {
			for _, a := range times {
				for _, b := range times {
					for _, c := range times {
						checkSeen(t, p, window, []int{a, b, c})
					}
				}
			}
		}
	}
}

// P12.1: a lag above all numbers is Most, and what is behind that is no less than Least.
func TestAtTheEnds(t *testing.T) {
	checkSteps(t, 100, 9, step{api.Most, 0, api.Most - 1}, step{api.Least, api.Most, api.Most - 1})
	checkSteps(t, 100, 2,
		step{-1, 0, -2}, step{api.Least, api.Most, -2}, step{0, api.Most, -2}, step{1, 0, 0}, step{api.Least + 2, api.Most, 0})
	checkSteps(t, 100, 2, step{api.Least, 0, api.Never}, step{api.Least, 0, api.Never}, step{api.Least + 1, 0, api.Least})
	checkSteps(t, 100, 2, step{api.Least + 1, 0, api.Never}, step{api.Least + 2, 0, api.Least + 1}, step{api.Least, 2, api.Least + 1})
}

// P12.1: records of each kind and text count, by their Time alone.
func TestKindsAndTextsAreOfNoMatter(t *testing.T) {
	for _, kind := range []int{api.Data, api.Punct, 0, -1, 3, api.Least, api.Most} {
		for _, text := range []string{"", "!", "99", "\xFF\x00"} {
			g := percent.New(100, 2)
			for _, x := range []step{{10, 0, 9}, {8, 2, 9}, {11, 2, 9}, {12, 0, 11}} {
				g.Seen(api.Record{Kind: kind, Time: x.time, Text: text})
				checkGen(t, g, x.lag, x.now)
			}
		}
	}
}

// P2: Gens have nothing in common.
func TestGensAreApart(t *testing.T) {
	a, b, same := percent.New(100, 3), percent.New(0, 1), percent.New(100, 3)
	a.Seen(at(10))
	a.Seen(at(7))
	checkGen(t, a, 3, 9)
	checkGen(t, b, 0, api.Never)
	checkGen(t, same, 0, api.Never)
	b.Seen(at(100))
	b.Seen(at(50))
	checkGen(t, a, 3, 9)
	checkGen(t, b, 50, 99)
	checkGen(t, same, 0, api.Never)
}

// P1: what is not from 0 to 100, and windows that are not from 1 on, or are too great, end and don't panic (what is answered then isn't promised).
func TestWrongPercentsAndWindows(t *testing.T) {
	wrong := []int{api.Least, api.Least + 1, -1 << 32, -101, -100, -1, 0, 101, 200, 1<<20 + 1, 1 << 32, api.Most / 2, api.Most - 1, api.Most}
	for _, p := range append(wrong, percents...) {
		for _, window := range append(wrong, 1, 2) {
			g := percent.New(p, window)
			g.Lag()
			g.Now()
			for _, time := range times {
				g.Seen(at(time))
				g.Lag()
				g.Now()
			}
		}
	}
}

// P12.1: the greatest window: the first lag goes as the record comes for which there is no room.
func TestTheGreatestWindow(t *testing.T) {
	const window = 1 << 20
	g := percent.New(100, window)
	g.Seen(at(0))
	g.Seen(at(-7))
	for i := range window - 1 {
		g.Seen(at(i))
	}
	checkGen(t, g, 7, window-2-7-1)
	g.Seen(at(window))
	checkGen(t, g, 0, window-1)
}

// P12.1: many records, each ten of which come the wrong way round.
func TestManyRecords(t *testing.T) {
	const many = 1000000
	for _, x := range []struct{ p, window, lag int }{{100, 4096, 9}, {0, 4096, 0}, {50, 1000, 4}, {51, 1000, 5}, {90, 1000, 8}, {91, 1000, 9}} {
		g := percent.New(x.p, x.window)
		for i := range many {
			g.Seen(at(i/10*10 + 9 - i%10))
		}
		if got := g.Lag(); got != x.lag {
			t.Errorf("of %d and the window %d Lag = %d, want %d", x.p, x.window, got, x.lag)
		}
	}
}

// P1, P12.1: any numbers, and any times, 8 bytes each.
func FuzzGen(f *testing.F) {
	f.Add(50, 3, []byte("any of these, and those, and others that are behind"))
	f.Add(100, 1, []byte("\x80\x00\x00\x00\x00\x00\x00\x00\x00\x00\x00\x00\x00\x00\x00\x00\x7F\xFF\xFF\xFF\xFF\xFF\xFF\xFF"))
	f.Add(-1, 0, []byte("of no promise"))
	f.Fuzz(func(t *testing.T, p, window int, b []byte) {
		var l []int
		for ; len(b) >= 8; b = b[8:] {
			l = append(l, int(binary.BigEndian.Uint64(b)))
		}
		if p < 0 || p > 100 || window < 1 || window > 1<<20 {
			g := percent.New(p, window)
			for _, time := range l {
				g.Seen(at(time))
				g.Lag()
			}
			g.Now()
			return
		}
		checkSeen(t, p, window, l)
	})
}
