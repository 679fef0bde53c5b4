package log_test

import (
	"encoding/binary"
	"hash/crc32"
	"slices"
	"strings"
	"testing"
	"unsafe"

	"tidewaiter/api"
	"tidewaiter/frame"
	"tidewaiter/log"
)

// framed: any body behind its length, with its sum behind it, by the library.
func framed(body string) string {
	b := append(binary.AppendUvarint(nil, uint64(len(body))), body...)
	return string(binary.BigEndian.AppendUint32(b, crc32.ChecksumIEEE([]byte(body))))
}

// bytesOf: records, one behind the other, by the library.
func bytesOf(l []api.Record) string {
	s := ""
	for _, r := range l {
		s += framed(string(binary.AppendVarint([]byte{byte(r.Kind)}, int64(r.Time))) + r.Text)
	}
	return s
}

// some: records of both kinds, neither rising nor falling, two of them the same.
func some() []api.Record {
	return []api.Record{
		{Kind: api.Data, Time: 5, Text: "a"},
		{Kind: api.Punct, Time: -3},
		{Kind: api.Data, Time: 1 << 40, Text: "b\x00\xFF"},
		{Kind: api.Data, Time: 5, Text: "a"},
		{Kind: api.Punct, Time: api.Least, Text: strings.Repeat("long", 100)},
		{Kind: api.Data, Time: api.Most, Text: framed("\x01\x00inner")},
		{Kind: api.Data},
	}
}

// wrong: what no record begins with, and the error that layer 5's Get has for it.
var wrong = []struct {
	s string
	e api.Errno
}{
	{"\x80", api.ErrShort},
	{"\x05\x01\x81", api.ErrShort},
	{"\x02\x01\x00\x58\xC2\x23", api.ErrShort},
	{"\x80\x00", api.ErrVarint},
	{"\x00", api.ErrLength},
	{"\x01", api.ErrLength},
	{"\x81\x80\x04", api.ErrLength},
	{strings.Repeat("\xFF", 9) + "\x01", api.ErrLength},
	{"\x02\x01\x00\x58\xC2\x23\xBF", api.ErrSum},
	{framed("\x00\x00"), api.ErrKind},
	{framed("\x03\x00"), api.ErrKind},
	{framed("\x01\x80"), api.ErrShort},
	{framed("\x02\x80\x00"), api.ErrVarint},
}

func checkParse(t *testing.T, s string, want []api.Record, wantValid int, wantE api.Errno) {
	t.Helper()
	if got, valid, e := log.Parse(s); !slices.Equal(got, want) || valid != wantValid || e != wantE {
		t.Errorf("Parse(%.80q) (%d bytes) = %d records, %d, %v, want %d records, %d, %v", s, len(s), len(got), valid, e, len(want), wantValid, wantE)
	}
}

func checkBuild(t *testing.T, l []api.Record, want string, wantE api.Errno) {
	t.Helper()
	if got, e := log.Build(l...); got != want || e != wantE {
		t.Errorf("Build of %d records = %.80q (%d bytes), %v, want %.80q (%d bytes), %v", len(l), got, len(got), e, want, len(want), wantE)
	}
}

// P6.1, P6.2: nothing is no records, and OK.
func TestNothing(t *testing.T) {
	checkParse(t, "", nil, 0, api.OK)
	checkBuild(t, nil, "", api.OK)
	checkBuild(t, []api.Record{}, "", api.OK)
	if got := log.Times(); len(got) != 0 {
		t.Errorf("Times of nothing = %d", got)
	}
}

// P6.1, P6.2: of each run of records their bytes, there and back, in order.
func TestParseAndBuildOfRecords(t *testing.T) {
	all := some()
	for from := range all {
		for to := from; to <= len(all); to++ {
			l := all[from:to]
			s := bytesOf(l)
			checkBuild(t, l, s, api.OK)
			checkParse(t, s, l, len(s), api.OK)
		}
	}
	slices.Reverse(all)
	checkBuild(t, all, bytesOf(all), api.OK)
	checkParse(t, bytesOf(all), all, len(bytesOf(all)), api.OK)
}

// P6.1: the document's example, and each other part of records: those that are there as a whole, and ErrShort but at their ends.
func TestParseOfParts(t *testing.T) {
	all := some()
	var ends []int
	for i := range len(all) + 1 {
		ends = append(ends, len(bytesOf(all[:i])))
	}
	s := bytesOf(all)
	for size := range len(s) + 1 {
		whole := 0
		for whole < len(all) && ends[whole+1] <= size {
			whole++
		}
		e := api.ErrShort
		if ends[whole] == size {
			e = api.OK
		}
		checkParse(t, s[:size], all[:whole], ends[whole], e)
	}
}

// P6.1: at what is wrong it ends, with Get's error; what is behind is not read, though it is right.
func TestParseOfWrongBytes(t *testing.T) {
	all := some()
	for _, x := range wrong {
		for many := range len(all) + 1 {
			ahead := bytesOf(all[:many])
			checkParse(t, ahead+x.s, all[:many], len(ahead), x.e)
			if x.e != api.ErrShort {
				checkParse(t, ahead+x.s+bytesOf(all), all[:many], len(ahead), x.e)
			}
		}
	}
	checkParse(t, bytesOf(all)+framed("\x01\x80")+bytesOf(all), all, len(bytesOf(all)), api.ErrShort)
	for _, x := range wrong {
		for _, y := range wrong {
			if x.e != api.ErrShort {
				checkParse(t, bytesOf(all[:2])+x.s+y.s, all[:2], len(bytesOf(all[:2])), x.e)
			}
		}
	}
}

// P6.1: a bit that is turned in a body or its sum ends it ahead of that record.
func TestParseOfTurnedBits(t *testing.T) {
	all := some()[:4]
	s := bytesOf(all)
	for i := range all {
		begin, end := len(bytesOf(all[:i])), len(bytesOf(all[:i+1]))
		for bit := 8 * (begin + 1); bit < 8*end; bit++ {
			b := []byte(s)
			b[bit/8] ^= 1 << (bit % 8)
			checkParse(t, string(b), all[:i], begin, api.ErrSum)
		}
	}
}

// P6.1, P6.2: many records, and the longest ones.
func TestManyRecords(t *testing.T) {
	var l []api.Record
	for i := range 20000 {
		l = append(l, api.Record{Kind: 1 + i%2, Time: i*i - 1000, Text: strings.Repeat("z", i%7)})
	}
	for i := range 5 {
		l = append(l, api.Record{Kind: api.Data, Time: -i, Text: strings.Repeat("m", frame.MaxBody-2)})
	}
	s, e := log.Build(l...)
	if e != api.OK {
		t.Fatal(e)
	}
	checkParse(t, s, l, len(s), api.OK)
	checkParse(t, s+"\x01", l, len(s), api.ErrLength)
}

// P6.2: the error of the first record that has one, and no bytes, wherever it stands.
func TestBuildOfWrongRecords(t *testing.T) {
	long := api.Record{Kind: api.Data, Text: strings.Repeat("x", frame.MaxBody-1)}
	both := api.Record{Kind: 257, Text: long.Text}
	for many := range len(some()) + 1 {
		for kind, e := range map[api.Record]api.Errno{{}: api.ErrKind, {Kind: 3}: api.ErrKind, {Kind: -1, Time: 5}: api.ErrKind, both: api.ErrKind, long: api.ErrLength} {
			checkBuild(t, slices.Insert(some(), many, kind), "", e)
		}
		checkBuild(t, slices.Insert(some(), many, long, both), "", api.ErrLength)
		checkBuild(t, slices.Insert(some(), many, both, long), "", api.ErrKind)
	}
}

// P6.2: times in order, also of records that have no bytes.
func TestTimes(t *testing.T) {
	all := some()
	for many := range len(all) + 1 {
		want := []int{5, -3, 1 << 40, 5, api.Least, api.Most, 0}[:many]
		if got := log.Times(all[:many]...); !slices.Equal(got, want) {
			t.Errorf("Times = %d, want %d", got, want)
		}
	}
	if got := log.Times(api.Record{Kind: 9, Time: 4}, api.Record{}, api.Record{Kind: -1, Time: 3}); !slices.Equal(got, []int{4, 0, 3}) {
		t.Errorf("Times of what can't be built = %d", got)
	}
}

// P2: lists that are handed in, and their spare room, stay as they are.
func TestCallsLeaveTheirListsAlone(t *testing.T) {
	all := some()
	l := all[:3]
	log.Build(l...)
	log.Times(l...)
	log.Build(append(l[:3:3], api.Record{})...)
	if !slices.Equal(all, some()) {
		t.Errorf("behind the calls the list is %v", all)
	}
}

// P2: what is answered shares nothing with the argument, nor with another answer.
func TestAnswersAreNew(t *testing.T) {
	s := bytesOf(some())
	one, _, _ := log.Parse(s)
	other, _, _ := log.Parse(s)
	for i, r := range one {
		if within(r.Text, s) || within(r.Text, other[i].Text) {
			t.Errorf("the text of record %d is shared", i)
		}
	}
	clear(one[:cap(one)])
	if !slices.Equal(other, some()) {
		t.Error("a list is shared with another answer")
	}
	times := log.Times(some()...)
	clear(times[:cap(times)])
	if got := log.Times(some()[:2]...); !slices.Equal(got, []int{5, -3}) {
		t.Errorf("Times, when another answer was cleared: %d", got)
	}
}

// within: does a text begin inside of another one's memory?
func within(text, s string) bool {
	begin := uintptr(unsafe.Pointer(unsafe.StringData(s)))
	place := uintptr(unsafe.Pointer(unsafe.StringData(text)))
	return text != "" && place >= begin && place < begin+uintptr(len(s))
}

// P1, P6.1, P6.2: of any bytes the records ahead of valid, whose Build these are, and at valid Get's error.
func FuzzParse(f *testing.F) {
	f.Add("")
	f.Add(bytesOf(some()))
	for _, x := range wrong {
		f.Add(x.s)
		f.Add(bytesOf(some()[:2]) + x.s)
	}
	f.Fuzz(func(t *testing.T, s string) {
		for _, s := range []string{s, framed(s), framed("\x01\x00") + framed("\x02"+s) + s} {
			l, valid, e := log.Parse(s)
			if valid < 0 || valid > len(s) || bytesOf(l) != s[:valid] {
				t.Fatalf("Parse(%q) = %v, %d, %v", s, l, valid, e)
			}
			checkBuild(t, l, s[:valid], api.OK)
			want := api.OK
			if valid < len(s) {
				_, _, want = frame.Get(s[valid:])
			}
			if e != want || (e == api.OK) != (valid == len(s)) {
				t.Errorf("Parse(%q): %v, want %v", s, e, want)
			}
		}
	})
}
