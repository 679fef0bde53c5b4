package cursor_test

import (
	"encoding/binary"
	"hash/crc32"
	"strings"
	"testing"
	"unsafe"

	"tidewaiter/api"
	"tidewaiter/cursor"
	"tidewaiter/frame"
	"tidewaiter/log"
)

// framed: any body behind its length, with its sum behind it, by the library.
func framed(body string) string {
	b := append(binary.AppendUvarint(nil, uint64(len(body))), body...)
	return string(binary.BigEndian.AppendUint32(b, crc32.ChecksumIEEE([]byte(body))))
}

// bytesOf: a record's bytes, by the library.
func bytesOf(r api.Record) string {
	return framed(string(binary.AppendVarint([]byte{byte(r.Kind)}, int64(r.Time))) + r.Text)
}

// some: records of both kinds, neither rising nor falling, two of them the same, one as long as can be.
func some() []api.Record {
	return []api.Record{
		{Kind: api.Data, Time: 5, Text: "a"},
		{Kind: api.Punct, Time: -3},
		{Kind: api.Data, Time: 1 << 40, Text: "b\x00\xFF"},
		{Kind: api.Data, Time: 5, Text: "a"},
		{Kind: api.Punct, Time: api.Least, Text: strings.Repeat("long", 100)},
		{Kind: api.Data, Time: api.Most, Text: framed("\x01\x00inner")},
		{Kind: api.Data, Time: 1, Text: strings.Repeat("x", frame.MaxBody-2)},
		{Kind: api.Data},
	}
}

// wrong: what no record begins with, and the error that layer 5's Get has for it.
var wrong = []struct {
	s string
	e api.Errno
}{
	{"\x80", api.ErrShort},
	{"\x05\x01\x81", api.ErrShort},
	{"\x02\x01\x00\x58\xC2\x23", api.ErrShort},
	{"\x80\x00", api.ErrVarint},
	{"\x00", api.ErrLength},
	{"\x01", api.ErrLength},
	{"\x81\x80\x04", api.ErrLength},
	{strings.Repeat("\xFF", 9) + "\x01", api.ErrLength},
	{"\x02\x01\x00\x58\xC2\x23\xBF", api.ErrSum},
	{framed("\x00\x00"), api.ErrKind},
	{framed("\x03\x00"), api.ErrKind},
	{framed("\x01\x80"), api.ErrShort},
	{framed("\x02\x80\x00"), api.ErrVarint},
}

// is holds what a Cursor tells against what it should, twice, as to ask changes nothing.
func is(t *testing.T, c *cursor.Cursor, ahead int, e api.Errno, at, count int) {
	t.Helper()
	for range 2 {
		if c.Ahead() != ahead || c.Err() != e || c.At() != at || c.Count() != count {
			t.Fatalf("Ahead %d, Err %v, At %d, Count %d, want %d, %v, %d, %d", c.Ahead(), c.Err(), c.At(), c.Count(), ahead, e, at, count)
		}
	}
}

// walk goes along a log of which it is known with which records it begins, and why there are no more.
func walk(t *testing.T, s string, l []api.Record, valid int, e api.Errno) {
	t.Helper()
	c := cursor.New(s)
	at := 0
	for i, want := range l {
		is(t, c, cursor.More, api.OK, at, i)
		if r, ok := c.Next(); r != want || !ok {
			t.Fatalf("Next %d = %.80v, %v, want %.80v", i, r, ok, want)
		}
		at += len(bytesOf(want))
	}
	if at != valid {
		t.Fatalf("the records have %d bytes, want %d", at, valid)
	}
	ahead := cursor.Fault
	if e == api.OK {
		ahead = cursor.End
	}
	// What comes no more doesn't come later either.
	for range 3 {
		is(t, c, ahead, e, valid, len(l))
		if r, ok := c.Next(); r != (api.Record{}) || ok {
			t.Fatalf("Next at the end = %.80v, %v", r, ok)
		}
	}
	is(t, c, ahead, e, valid, len(l))
}

// P21.1: the document's example.
func TestTheDocumentsExample(t *testing.T) {
	s, _ := log.Build(api.Record{Kind: api.Data, Time: 5, Text: "a"})
	c := cursor.New(s)
	if c.Ahead() != cursor.More {
		t.Error("of one record: Ahead", c.Ahead())
	}
	c.Next()
	if c.Ahead() != cursor.End {
		t.Error("behind it: Ahead", c.Ahead())
	}
}

// P21.1: More, End and Fault are 0, 1 and 2.
func TestNumbers(t *testing.T) {
	if cursor.More != 0 || cursor.End != 1 || cursor.Fault != 2 {
		t.Error("More, End and Fault are", cursor.More, cursor.End, cursor.Fault)
	}
}

// P21.1, P21.2: of nothing, nothing comes, which is no fault.
func TestNothing(t *testing.T) { walk(t, "", nil, 0, api.OK) }

// P21.1, P21.2: along records, as many as there are.
func TestRecords(t *testing.T) {
	l := some()
	for from := range l {
		s := ""
		for to := from; to < len(l); to++ {
			s += bytesOf(l[to])
			walk(t, s, l[from:to+1], len(s), api.OK)
		}
	}
}

// P21.1, P21.2: what is no record, at the front, and behind one and many, with nothing and with a record behind it.
func TestFaults(t *testing.T) {
	l := some()
	for _, x := range wrong {
		s := ""
		for i := range l {
			walk(t, s+x.s, l[:i], len(s), x.e)
			// One that is too short isn't that any more, if there is more behind it.
			if x.e != api.ErrShort {
				walk(t, s+x.s+bytesOf(l[0]), l[:i], len(s), x.e)
			}
			s += bytesOf(l[i])
		}
		walk(t, s+x.s, l, len(s), x.e)
	}
}

// P21.1, P21.2: a log that is cut off at any byte.
func TestCutOff(t *testing.T) {
	l := some()[:4]
	var ends []int
	s := ""
	for _, r := range l {
		s += bytesOf(r)
		ends = append(ends, len(s))
	}
	whole, valid := 0, 0
	for n := range len(s) {
		if n == ends[whole] {
			whole, valid = whole+1, n
		}
		if n == valid {
			walk(t, s[:n], l[:whole], valid, api.OK)
		} else {
			walk(t, s[:n], l[:whole], valid, api.ErrShort)
		}
	}
}

// P21.1, P21.2: a log any byte of which is another one, as layer 6 parses it.
func TestChanged(t *testing.T) {
	s, e := log.Build(some()[:4]...)
	if e != api.OK {
		t.Fatal(e)
	}
	for i := range len(s) {
		for _, by := range []byte{1, 2, 0x40, 0x80, 0xFF} {
			b := []byte(s)
			b[i] ^= by
			l, valid, e := log.Parse(string(b))
			walk(t, string(b), l, valid, e)
		}
	}
}

// P21.2: Next needs no Ahead to be asked.
func TestNextAlone(t *testing.T) {
	l := some()
	s, _ := log.Build(l...)
	c := cursor.New(s + "\x00")
	for i, want := range l {
		if r, ok := c.Next(); r != want || !ok {
			t.Fatalf("Next %d = %.80v, %v", i, r, ok)
		}
	}
	if r, ok := c.Next(); r != (api.Record{}) || ok {
		t.Errorf("Next of a fault = %v, %v", r, ok)
	}
	is(t, c, cursor.Fault, api.ErrLength, len(s), len(l))
}

// P2, P21.2: Cursors of the same log are apart.
func TestCursorsAreApart(t *testing.T) {
	l := some()[:2]
	s, _ := log.Build(l...)
	a, b := cursor.New(s), cursor.New(s)
	a.Next()
	is(t, a, cursor.More, api.OK, len(bytesOf(l[0])), 1)
	is(t, b, cursor.More, api.OK, 0, 0)
	b.Next()
	b.Next()
	is(t, a, cursor.More, api.OK, len(bytesOf(l[0])), 1)
	is(t, b, cursor.End, api.OK, len(s), 2)
}

// P2: a log isn't kept as it was handed in, and a record is new memory.
func TestMemory(t *testing.T) {
	l := some()
	s, _ := log.Build(l...)
	b := []byte(s)
	c := cursor.New(unsafe.String(&b[0], len(b)))
	first, _ := c.Next()
	clear(b)
	if first != l[0] {
		t.Errorf("a record has become %v", first)
	}
	for i, want := range l[1:] {
		if r, ok := c.Next(); r != want || !ok {
			t.Fatalf("Next %d = %.80v, %v", i+1, r, ok)
		}
	}
	is(t, c, cursor.End, api.OK, len(s), len(l))
}

// P21.2: along a log of many records.
func TestMany(t *testing.T) {
	const many = 1 << 16
	r := api.Record{Kind: api.Data, Time: 300, Text: "abc"}
	c := cursor.New(strings.Repeat(bytesOf(r), many) + "\x05")
	for i := range many {
		if x, ok := c.Next(); x != r || !ok {
			t.Fatalf("Next %d = %v, %v", i, x, ok)
		}
	}
	is(t, c, cursor.Fault, api.ErrShort, many*len(bytesOf(r)), many)
}

// P1, P21.1, P21.2: any bytes, as layer 6 parses them.
func FuzzWalk(f *testing.F) {
	s, _ := log.Build(some()[:4]...)
	f.Add(s)
	f.Add(s + "\x02\x01\x00\x58\xC2\x23\xBF")
	for _, x := range wrong {
		f.Add(x.s)
		f.Add(s + x.s)
	}
	f.Fuzz(func(t *testing.T, s string) {
		l, valid, e := log.Parse(s)
		walk(t, s, l, valid, e)
		// The same behind one that is a record for sure, as few bytes are by chance.
		r := api.Record{Kind: api.Punct, Time: len(s), Text: s}
		if own, e := frame.Encode(r); e == api.OK {
			l, valid, e := log.Parse(own + s)
			walk(t, own+s, l, valid, e)
			if len(l) == 0 || l[0] != r {
				t.Fatalf("the record itself isn't read")
			}
		}
	})
}
