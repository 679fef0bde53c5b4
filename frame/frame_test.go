package frame_test

import (
	"encoding/binary"
	"hash/crc32"
	"strings"
	"testing"
	"unsafe"

	"tidewaiter/api"
	"tidewaiter/frame"
)

// framed: any body behind its length, with its sum behind it, by the library.
func framed(body string) string {
	return sized(uint64(len(body)), body)
}

// sized: likewise, but behind any length.
func sized(length uint64, body string) string {
	b := append(binary.AppendUvarint(nil, length), body...)
	return string(binary.BigEndian.AppendUint32(b, crc32.ChecksumIEEE([]byte(body))))
}

// bodyOf: a record's body, by the library.
func bodyOf(r api.Record) string {
	return string(binary.AppendVarint([]byte{byte(r.Kind)}, int64(r.Time))) + r.Text
}

// times: those at which their bytes get more, and the ends.
func times() []int {
	l := []int{0, 1, -1, 63, -64, 64, -65, 300, api.Least, api.Least + 1, api.Most - 1, api.Most}
	for bit := range 63 {
		power := 1 << bit
		l = append(l, power-1, power, -power, -power-1)
	}
	return l
}

// texts: none, bytes of all sorts, what looks like a record, and those by which a body's length gets more bytes.
func texts() []string {
	l := []string{"", "\x00", "a", "xy", "\xFF\xFE\x80", "\u00e4\n", framed("\x01\x00in"), "\x00\x00\x00\x00\x00"}
	for _, many := range []int{100, 115, 116, 117, 124, 125, 126, 127, 128, 129, 300, 16370, 16381, 16382, 16383, 16384, 60000} {
		l = append(l, strings.Repeat("\x5A\x00\xFF", many)[:many])
	}
	return l
}

// records: of both kinds, with each text and each time.
func records() []api.Record {
	var l []api.Record
	for _, kind := range []int{api.Data, api.Punct} {
		for i, text := range texts() {
			for j, time := range times() {
				// Of the long texts a few times are enough.
				if len(text) < 1000 || (i+j)%40 == 0 {
					l = append(l, api.Record{Kind: kind, Time: time, Text: text})
				}
			}
		}
	}
	return l
}

func checkEncode(t *testing.T, r api.Record, want string, wantE api.Errno) {
	t.Helper()
	if got, e := frame.Encode(r); got != want || e != wantE {
		t.Errorf("Encode of %d, %d, %.40q (%d bytes) = %.60q (%d bytes), %v, want %.60q (%d bytes), %v",
			r.Kind, r.Time, r.Text, len(r.Text), got, len(got), e, want, len(want), wantE)
	}
}

func checkGet(t *testing.T, s string, want api.Record, wantSize int, wantE api.Errno) {
	t.Helper()
	if got, size, e := frame.Get(s); got != want || size != wantSize || e != wantE {
		t.Errorf("Get(%.60q) (%d bytes) = %d, %d, %.40q, %d, %v, want %d, %d, %.40q, %d, %v",
			s, len(s), got.Kind, got.Time, got.Text, size, e, want.Kind, want.Time, want.Text, wantSize, wantE)
	}
}

func checkNone(t *testing.T, s string, e api.Errno) {
	t.Helper()
	checkGet(t, s, api.Record{}, 0, e)
}

// P5.1: the two kinds, and nothing else, also beyond what a byte can be.
func TestKind(t *testing.T) {
	for k := -300; k < 600; k++ {
		if got := frame.Kind(k); got != (k == 1 || k == 2) {
			t.Errorf("Kind(%d) = %t", k, got)
		}
	}
	for _, k := range []int{1<<8 + 1, 1<<16 + 2, 1<<32 + 1, 1<<32 + 2, api.Least, api.Least + 1, api.Least + 2, api.Most} {
		if frame.Kind(k) {
			t.Errorf("Kind(%d) = true", k)
		}
	}
}

// P5.1: a body has up to 2^16 bytes.
func TestMaxBody(t *testing.T) {
	if frame.MaxBody != 65536 {
		t.Errorf("MaxBody is %d", frame.MaxBody)
	}
}

// P5.1, P5.2: known records as bytes, written out, there and back.
func TestEncodeAndGetOfKnownRecords(t *testing.T) {
	for s, r := range map[string]api.Record{
		"\x05\x01\x81\x01xy\x61\x5A\x5F\xA2": {Kind: api.Data, Time: -65, Text: "xy"},
		"\x02\x01\x00\x58\xC2\x23\xBE":       {Kind: api.Data},
		"\x02\x02\x02\x9D\xE1\x11\x51":       {Kind: api.Punct, Time: 1},
	} {
		checkEncode(t, r, s, api.OK)
		checkGet(t, s, r, len(s), api.OK)
	}
}

// P5.1, P5.2: records of all sorts there and back, whatever is behind them.
func TestEncodeAndGetOfRecords(t *testing.T) {
	for _, r := range records() {
		s := framed(bodyOf(r))
		checkEncode(t, r, s, api.OK)
		for _, behind := range []string{"", "\x00", "\x80", "more", s} {
			checkGet(t, s+behind, r, len(s), api.OK)
		}
	}
}

// P5.1: of another kind no record is told, however it ends in a byte, and however long it is.
func TestEncodeOfOtherKinds(t *testing.T) {
	for _, kind := range []int{0, 3, -1, -2, 255, 256, 257, 258, -255, 1<<32 + 1, api.Least, api.Least + 1, api.Most} {
		for _, text := range []string{"", "abc", strings.Repeat("x", frame.MaxBody+1)} {
			checkEncode(t, api.Record{Kind: kind, Time: 5, Text: text}, "", api.ErrKind)
		}
	}
	checkEncode(t, api.Record{}, "", api.ErrKind)
}

// P5.1, P5.2: just as long as a body may be, with times of all lengths, and one byte longer.
func TestEncodeAtTheMost(t *testing.T) {
	for _, kind := range []int{api.Data, api.Punct} {
		for _, time := range times() {
			r := api.Record{Kind: kind, Time: time}
			r.Text = strings.Repeat("x", frame.MaxBody-len(bodyOf(r)))
			s := framed(bodyOf(r))
			checkEncode(t, r, s, api.OK)
			checkGet(t, s, r, 3+frame.MaxBody+4, api.OK)
			r.Text += "x"
			checkEncode(t, r, "", api.ErrLength)
			checkNone(t, framed(bodyOf(r)), api.ErrLength)
		}
	}
	checkEncode(t, api.Record{Kind: api.Data, Text: strings.Repeat("x", 1<<24)}, "", api.ErrLength)
}

// P5.2: each part of a record, but the whole, is short.
func TestGetOfTooFewBytes(t *testing.T) {
	for _, r := range []api.Record{{Kind: 1}, {Kind: 2, Time: api.Least}, {Kind: 1, Time: -65, Text: "xy"}, {Kind: 2, Time: 7, Text: strings.Repeat("z", 400)}} {
		s := framed(bodyOf(r))
		for size := range len(s) {
			checkNone(t, s[:size], api.ErrShort)
		}
	}
	r := api.Record{Kind: 1, Text: strings.Repeat("z", frame.MaxBody-2)}
	s := framed(bodyOf(r))
	for _, size := range []int{0, 1, 2, 3, 4, 1 << 15, len(s) - 5, len(s) - 4, len(s) - 3, len(s) - 1} {
		checkNone(t, s[:size], api.ErrShort)
	}
}

// P5.2: lengths that are no varint.
func TestGetOfWrongVarintsAsLengths(t *testing.T) {
	for _, s := range []string{"\x80\x00", "\x82\x00", "\x85\x80\x00", strings.Repeat("\x80", 11), strings.Repeat("\xFF", 9) + "\x02", strings.Repeat("\xFF", 12)} {
		checkNone(t, s, api.ErrVarint)
		checkNone(t, s+"\x01\x00\x58\xC2\x23\xBE", api.ErrVarint)
	}
	for _, s := range []string{"", "\x80", "\x82", "\xFF\xFF\xFF", strings.Repeat("\xFF", 9)} {
		checkNone(t, s, api.ErrShort)
	}
}

// P5.2: lengths below 2 and above MaxBody, also those that are beyond ints, or at their ends with more behind them; ahead of all that is wrong behind.
func TestGetOfWrongLengths(t *testing.T) {
	for _, length := range []uint64{0, 1, frame.MaxBody + 1, frame.MaxBody + 2, 1 << 17, 1<<31 - 1, 1 << 31, 1<<32 + 2, 1<<32 + 5, 1<<63 - 5, 1<<63 - 1, 1 << 63, 1<<63 + 2, 1<<64 - 20, 1<<64 - 4, 1<<64 - 1} {
		checkNone(t, string(binary.AppendUvarint(nil, length)), api.ErrLength)
		for _, body := range []string{"", "\x01", "\x01\x00", "\x01\x81\x01xy", "\x03\x80"} {
			checkNone(t, sized(length, body), api.ErrLength)
		}
	}
	checkNone(t, framed(""), api.ErrLength)
	checkNone(t, framed("\x01"), api.ErrLength)
	checkNone(t, framed("\x01\x00"+strings.Repeat("x", frame.MaxBody-1)), api.ErrLength)
	// The ends themselves aren't wrong: it is the bytes that are too few.
	checkNone(t, "\x02", api.ErrShort)
	checkNone(t, "\x80\x80\x04", api.ErrShort)
}

// P5.2: bits that are turned behind the length are told by the sum, whatever else they do.
func TestGetOfWrongSums(t *testing.T) {
	for _, r := range []api.Record{{Kind: 1}, {Kind: 2, Time: 1}, {Kind: 1, Time: -65, Text: "xy"}, {Kind: 2, Time: api.Most, Text: strings.Repeat("z", 60)}} {
		s := framed(bodyOf(r))
		for bit := range 8 * (len(s) - 1) {
			b := []byte(s)
			b[1+bit/8] ^= 1 << (bit % 8)
			checkNone(t, string(b), api.ErrSum)
		}
	}
	// Bytes in the other order, a length that is one off, and a body that is wrong beside its sum.
	checkNone(t, "\x02\x01\x00\xBE\x23\xC2\x58", api.ErrSum)
	checkNone(t, "\x02\x01\x00\x00\x00\x00\x00", api.ErrSum)
	checkNone(t, sized(4, "\x01\x81\x01xy"), api.ErrSum)
	checkNone(t, sized(6, "\x01\x81\x01xy")+"z", api.ErrSum)
	checkNone(t, "\x02\x00\x80\x00\x00\x00\x00", api.ErrSum)
	checkNone(t, "\x02\x03\x80\x00\x00\x00\x00", api.ErrSum)
}

// P5.2: the body's first byte is a kind; else that is told, whatever its time is.
func TestGetOfWrongKinds(t *testing.T) {
	for kind := range 256 {
		for _, behind := range []string{"\x00", "\x02", "\x81\x01xy", "\x80", "\x80\x00", strings.Repeat("\xFF", 12)} {
			s := framed(string([]byte{byte(kind)}) + behind)
			if kind != api.Data && kind != api.Punct {
				checkNone(t, s, api.ErrKind)
			} else if _, _, e := frame.Get(s); e == api.ErrKind {
				t.Errorf("Get(%q): %v", s, e)
			}
		}
	}
}

// P5.2: times that end too late, or have a second form; nothing behind the record is taken as a part of its time.
func TestGetOfWrongTimes(t *testing.T) {
	nine := strings.Repeat("\xFF", 9)
	for _, kind := range []string{"\x01", "\x02"} {
		for _, time := range []string{"\x80", "\xFF", "\x80\x80\x80", nine, nine + "\x80"} {
			checkNone(t, framed(kind+time), api.ErrShort)
			checkNone(t, framed(kind+time)+"\x01\x01\x01", api.ErrShort)
		}
		for _, time := range []string{"\x80\x00", "\x81\x80\x00xy", nine + "\x00", nine + "\x02", nine + "\x80\x01", nine + "\xFF\xFF"} {
			checkNone(t, framed(kind+time), api.ErrVarint)
		}
		checkGet(t, framed(kind+nine+"\x01"), api.Record{Kind: int(kind[0]), Time: api.Least}, 16, api.OK)
	}
}

// P5.2: of all bodies of two and three bytes what the words say.
func TestGetOfAllShortBodies(t *testing.T) {
	for kind := range 5 {
		for a := range 256 {
			checkBody(t, string([]byte{byte(kind), byte(a)}))
			for b := range 256 {
				checkBody(t, string([]byte{byte(kind), byte(a), byte(b)}))
			}
		}
	}
}

// checkBody: of a kind, and one or two bytes behind it.
func checkBody(t *testing.T, body string) {
	t.Helper()
	s := framed(body)
	kind, one := int(body[0]), int(body[1])
	switch {
	case kind != 1 && kind != 2:
		checkNone(t, s, api.ErrKind)
	case one < 128:
		checkGet(t, s, api.Record{Kind: kind, Time: back(one), Text: body[2:]}, len(s), api.OK)
	case len(body) == 2 || body[2] >= 128:
		checkNone(t, s, api.ErrShort)
	case body[2] == 0:
		checkNone(t, s, api.ErrVarint)
	default:
		checkGet(t, s, api.Record{Kind: kind, Time: back(one - 128 + 128*int(body[2]))}, len(s), api.OK)
	}
}

// back: 0, -1, 1, -2, 2 and so on of 0, 1, 2, 3, 4.
func back(n int) int {
	if n%2 == 1 {
		return -(n + 1) / 2
	}
	return n / 2
}

// P2: the text that Get answers is no piece of its argument, nor of another answer.
func TestGetSharesNothing(t *testing.T) {
	s := framed("\x01\x81\x01" + strings.Repeat("text", 30))
	one, _, _ := frame.Get(s)
	other, _, _ := frame.Get(s)
	if within(one.Text, s) || within(one.Text, other.Text) {
		t.Error("a text that Get answers is shared")
	}
}

// within: does a text begin inside of another one's memory?
func within(text, s string) bool {
	begin := uintptr(unsafe.Pointer(unsafe.StringData(s)))
	place := uintptr(unsafe.Pointer(unsafe.StringData(text)))
	return place >= begin && place < begin+uintptr(len(s))
}

// P2: what is answered hangs on the argument alone, not on what was asked ahead of it.
func TestCallsHangOnTheirArgumentsAlone(t *testing.T) {
	r := api.Record{Kind: api.Punct, Time: 9, Text: "z"}
	want := framed(bodyOf(r))
	for _, ahead := range []string{"", "\x00", "\x02\x01\x00\x00\x00\x00\x00", framed("\x03\x00"), framed("\x01\x80"), want[:4], want} {
		frame.Get(ahead)
		frame.Encode(api.Record{Kind: len(ahead) % 4, Text: ahead})
		checkEncode(t, r, want, api.OK)
		checkGet(t, want, r, len(want), api.OK)
	}
}

// P1, P5.1, P5.2: of any bytes the record whose bytes they begin with, or an error and nothing beside it.
func FuzzGet(f *testing.F) {
	for _, s := range []string{"", "\x00", "\x01", "\x80\x00", "\x81\x80\x04", "\x80\x80\x04", framed("\x01\x00"), framed("\x02\x81\x01xy") + "more", framed("\x03\x00"), framed("\x01\x80"), framed("\x01\x80\x00")} {
		f.Add(s)
	}
	f.Fuzz(func(t *testing.T, s string) {
		checkFound(t, s)
		checkFound(t, framed(s))
		checkFound(t, framed("\x01"+s)+s)
	})
}

func checkFound(t *testing.T, s string) {
	t.Helper()
	r, size, e := frame.Get(s)
	if e == api.OK {
		if want := framed(bodyOf(r)); size != len(want) || s[:size] != want || !frame.Kind(r.Kind) {
			t.Errorf("Get(%q) = %v, %d, but its bytes are %q", s, r, size, want)
		}
		checkEncode(t, r, s[:size], api.OK)
		return
	}
	known := e == api.ErrShort || e == api.ErrVarint || e == api.ErrKind || e == api.ErrLength || e == api.ErrSum
	if r != (api.Record{}) || size != 0 || !known {
		t.Errorf("Get(%q) = %v, %d, %v", s, r, size, e)
	}
}

// P1, P5.1: any record there and back, or the error that it has.
func FuzzEncode(f *testing.F) {
	f.Add(1, -65, "xy")
	f.Add(2, api.Least, "")
	f.Add(257, 0, "\xFF")
	f.Fuzz(func(t *testing.T, kind, time int, text string) {
		r := api.Record{Kind: kind, Time: time, Text: text}
		if kind != 1 && kind != 2 {
			checkEncode(t, r, "", api.ErrKind)
			return
		}
		if len(bodyOf(r)) > 1<<16 {
			checkEncode(t, r, "", api.ErrLength)
			return
		}
		s := framed(bodyOf(r))
		checkEncode(t, r, s, api.OK)
		checkGet(t, s+text, r, len(s), api.OK)
	})
}
