package varint_test

import (
	"math/big"
	"strings"
	"testing"

	"tidewaiter/api"
	"tidewaiter/varint"
)

const greatest = 1<<64 - 1

// full is nine bytes with all bits set: the greatest number's but for its last one.
const full = "\xFF\xFF\xFF\xFF\xFF\xFF\xFF\xFF\xFF"

// noughts is nine digits 0, each with another one behind it.
const noughts = "\x80\x80\x80\x80\x80\x80\x80\x80\x80"

// known: numbers and their bytes, written out.
var known = []struct {
	n uint64
	s string
}{
	{0, "\x00"},
	{1, "\x01"},
	{127, "\x7F"},
	{128, "\x80\x01"},
	{129, "\x81\x01"},
	{255, "\xFF\x01"},
	{256, "\x80\x02"},
	{300, "\xAC\x02"},
	{1<<14 - 1, "\xFF\x7F"},
	{1 << 14, "\x80\x80\x01"},
	{1<<56 - 1, "\xFF\xFF\xFF\xFF\xFF\xFF\xFF\x7F"},
	{1 << 56, "\x80\x80\x80\x80\x80\x80\x80\x80\x01"},
	{1<<63 - 1, "\xFF\xFF\xFF\xFF\xFF\xFF\xFF\xFF\x7F"},
	{1 << 63, noughts + "\x01"},
	{greatest - 1, "\xFE\xFF\xFF\xFF\xFF\xFF\xFF\xFF\xFF\x01"},
	{greatest, full + "\x01"},
}

// about: numbers at and about each power of two, and so at each number of bytes.
func about() []uint64 {
	var l []uint64
	for bit := range 64 {
		power := uint64(1) << bit
		l = append(l, power-1, power, power+1, ^power, power|0x5A5A5A5A5A5A5A5A)
	}
	return l
}

// digits: a number's bytes, by division of numbers of any size.
func digits(n uint64) string {
	var b []byte
	rest, digit, base := new(big.Int).SetUint64(n), new(big.Int), big.NewInt(128)
	for rest.Cmp(base) >= 0 {
		rest.DivMod(rest, base, digit)
		b = append(b, byte(digit.Int64()+128))
	}
	return string(append(b, byte(rest.Int64())))
}

func checkGet(t *testing.T, s string, n uint64, many int, e api.Errno) {
	t.Helper()
	if gotN, gotMany, gotE := varint.Get(s); gotN != n || gotMany != many || gotE != e {
		t.Errorf("Get(%q) = %d, %d, %v, want %d, %d, %v", s, gotN, gotMany, gotE, n, many, e)
	}
}

func checkGetInt(t *testing.T, s string, n, many int, e api.Errno) {
	t.Helper()
	if gotN, gotMany, gotE := varint.GetInt(s); gotN != n || gotMany != many || gotE != e {
		t.Errorf("GetInt(%q) = %d, %d, %v, want %d, %d, %v", s, gotN, gotMany, gotE, n, many, e)
	}
}

// P2.1: known numbers there and back, whatever bytes are ahead or behind.
func TestPutAndGetOfKnownNumbers(t *testing.T) {
	for _, x := range known {
		for _, ahead := range []string{"", "a", "\x80\xFF\x00"} {
			if got := string(varint.Put([]byte(ahead), x.n)); got != ahead+x.s {
				t.Errorf("Put(%q, %d) = %q, want %q", ahead, x.n, got, ahead+x.s)
			}
		}
		for _, behind := range []string{"", "z", "\x00", "\x80", full + "\x02", noughts + "\x80\x80"} {
			checkGet(t, x.s+behind, x.n, len(x.s), api.OK)
		}
	}
	if got := string(varint.Put(nil, 300)); got != "\xAC\x02" {
		t.Errorf("Put(nil, 300) = %q", got)
	}
}

// P2.1: numbers about each power of two, against division of numbers of any size.
func TestPutAndGetOfAllLengths(t *testing.T) {
	for _, n := range about() {
		want := digits(n)
		if got := string(varint.Put(nil, n)); got != want {
			t.Errorf("Put(nil, %d) = %q, want %q", n, got, want)
		}
		checkGet(t, want+"\xFF", n, len(want), api.OK)
	}
}

// P2.1, P2: Put may use spare room, but changes nothing of what is ahead of it.
func TestPutKeepsWhatIsAhead(t *testing.T) {
	room := make([]byte, 3, 64)
	copy(room, "abc")
	for _, b := range [][]byte{room, room[:3:3]} {
		got := varint.Put(b, greatest)
		if string(got) != "abc"+full+"\x01" || string(b) != "abc" {
			t.Errorf("Put behind abc, with room for %d: %q, and abc is %q", cap(b), got, b)
		}
	}
	got := varint.PutInt(varint.Put(room, 300), -65)
	if string(got) != "abc\xAC\x02\x81\x01" {
		t.Errorf("Put and PutInt, one behind the other: %q", got)
	}
}

// P2.1: the tenth byte has one bit that is left, whether one more byte comes or not.
func TestGetAtTheTenthByte(t *testing.T) {
	checkGet(t, full+"\x01", greatest, 10, api.OK)
	checkGet(t, noughts+"\x01", 1<<63, 10, api.OK)
	for last := 2; last < 128; last++ {
		checkGet(t, full+string([]byte{byte(last)}), 0, 0, api.ErrVarint)
		checkGet(t, noughts+string([]byte{byte(last)}), 0, 0, api.ErrVarint)
	}
	for more := 128 + 2; more < 256; more++ {
		checkGet(t, full+string([]byte{byte(more)}), 0, 0, api.ErrVarint)
		checkGet(t, full+string([]byte{byte(more), 1}), 0, 0, api.ErrVarint)
	}
}

// P2.1: an eleventh byte is wrong, whatever it is; as long as it isn't there, bytes are too few.
func TestGetAtTheEleventhByte(t *testing.T) {
	for _, ten := range []string{full + "\x80", full + "\x81", noughts + "\x80", noughts + "\x81"} {
		checkGet(t, ten, 0, 0, api.ErrShort)
		for eleventh := range 256 {
			checkGet(t, ten+string([]byte{byte(eleventh)}), 0, 0, api.ErrVarint)
		}
		checkGet(t, ten+strings.Repeat("\x80", 1000), 0, 0, api.ErrVarint)
	}
}

// P2.1: a 0 as the last byte is wrong, but of the number 0.
func TestGetOfANoughtAsTheLastByte(t *testing.T) {
	checkGet(t, "\x00", 0, 1, api.OK)
	checkGet(t, "\x00\x00", 0, 1, api.OK)
	for many := 1; many <= 9; many++ {
		checkGet(t, noughts[:many]+"\x00", 0, 0, api.ErrVarint)
		checkGet(t, full[:many]+"\x00", 0, 0, api.ErrVarint)
		checkGet(t, full[:many]+"\x00\x01", 0, 0, api.ErrVarint)
		checkGet(t, noughts[:many]+"\x01", 1<<(7*many), many+1, api.OK)
	}
	checkGet(t, "\x81\x80\x01", 1+1<<14, 3, api.OK)
}

// P2.1: bytes that end ahead of the last one are too few.
func TestGetOfTooFewBytes(t *testing.T) {
	checkGet(t, "", 0, 0, api.ErrShort)
	for many := 1; many <= 9; many++ {
		checkGet(t, full[:many], 0, 0, api.ErrShort)
		checkGet(t, noughts[:many], 0, 0, api.ErrShort)
	}
	for _, x := range known {
		for many := range len(x.s) {
			checkGet(t, x.s[:many], 0, 0, api.ErrShort)
		}
	}
}

// P2.1: of all texts of one, two and three bytes what the words say.
func TestGetOfAllShortTexts(t *testing.T) {
	for a := range 256 {
		checkGetByWords(t, string([]byte{byte(a)}))
		for b := range 256 {
			checkGetByWords(t, string([]byte{byte(a), byte(b)}))
			for _, c := range []byte{0, 1, 127, 128, 129, 255} {
				checkGetByWords(t, string([]byte{byte(a), byte(b), c}))
			}
		}
	}
}

// checkGetByWords: of a text that is too short for a tenth byte.
func checkGetByWords(t *testing.T, s string) {
	t.Helper()
	last := 0
	for last < len(s) && s[last] >= 128 {
		last++
	}
	if last == len(s) {
		checkGet(t, s, 0, 0, api.ErrShort)
		return
	}
	if last > 0 && s[last] == 0 {
		checkGet(t, s, 0, 0, api.ErrVarint)
		return
	}
	n := uint64(0)
	for i := last; i >= 0; i-- {
		n = n*128 + uint64(s[i]%128)
	}
	checkGet(t, s, n, last+1, api.OK)
}

// folded: numbers, what they are folded to, and the bytes of that, written out.
var folded = []struct {
	n    int
	fold uint64
	s    string
}{
	{0, 0, "\x00"},
	{-1, 1, "\x01"},
	{1, 2, "\x02"},
	{-2, 3, "\x03"},
	{2, 4, "\x04"},
	{63, 126, "\x7E"},
	{-64, 127, "\x7F"},
	{64, 128, "\x80\x01"},
	{-65, 129, "\x81\x01"},
	{300, 600, "\xD8\x04"},
	{api.Most - 1, greatest - 3, "\xFC\xFF\xFF\xFF\xFF\xFF\xFF\xFF\xFF\x01"},
	{api.Least + 1, greatest - 2, "\xFD\xFF\xFF\xFF\xFF\xFF\xFF\xFF\xFF\x01"},
	{api.Most, greatest - 1, "\xFE\xFF\xFF\xFF\xFF\xFF\xFF\xFF\xFF\x01"},
	{api.Least, greatest, full + "\x01"},
}

// P2.2: known numbers there and back.
func TestFoldAndBackOfKnownNumbers(t *testing.T) {
	for _, x := range folded {
		if got := varint.Fold(x.n); got != x.fold {
			t.Errorf("Fold(%d) = %d, want %d", x.n, got, x.fold)
		}
		if got := varint.Back(x.fold); got != x.n {
			t.Errorf("Back(%d) = %d, want %d", x.fold, got, x.n)
		}
	}
}

// P2.2: 0, -1, 1, -2, 2 and so on are 0, 1, 2, 3, 4 and so on, from both ends of numbers.
func TestFoldGoesOutwards(t *testing.T) {
	for n := range 1000 {
		checkFold(t, n, 2*uint64(n))
		checkFold(t, -n-1, 2*uint64(n)+1)
		checkFold(t, api.Most-n, greatest-1-2*uint64(n))
		checkFold(t, api.Least+n, greatest-2*uint64(n))
	}
}

func checkFold(t *testing.T, n int, want uint64) {
	t.Helper()
	if got := varint.Fold(n); got != want {
		t.Errorf("Fold(%d) = %d, want %d", n, got, want)
	}
	if got := varint.Back(want); got != n {
		t.Errorf("Back(%d) = %d, want %d", want, got, n)
	}
}

// P2.2: Back is the way back of Fold at numbers of all sizes.
func TestBackOfAllLengths(t *testing.T) {
	for _, n := range about() {
		if got := varint.Fold(varint.Back(n)); got != n {
			t.Errorf("Fold of Back(%d), %d, is %d", n, varint.Back(n), got)
		}
		if got := varint.Back(varint.Fold(int(n))); got != int(n) {
			t.Errorf("Back of Fold(%d), %d, is %d", int(n), varint.Fold(int(n)), got)
		}
	}
}

// P2.2: known numbers as bytes there and back, whatever bytes are ahead or behind.
func TestPutIntAndGetIntOfKnownNumbers(t *testing.T) {
	for _, x := range folded {
		if got := string(varint.PutInt(nil, x.n)); got != x.s {
			t.Errorf("PutInt(nil, %d) = %q, want %q", x.n, got, x.s)
		}
		if got := string(varint.PutInt([]byte("a\xFF"), x.n)); got != "a\xFF"+x.s {
			t.Errorf("PutInt(a\\xFF, %d) = %q, want %q behind that", x.n, got, x.s)
		}
		for _, behind := range []string{"", "z", "\x00", "\x80"} {
			checkGetInt(t, x.s+behind, x.n, len(x.s), api.OK)
		}
	}
}

// P2.2: GetInt has Get's errors, and 0 and 0 beside them (not Back of something).
func TestGetIntOfWrongBytes(t *testing.T) {
	for _, x := range []struct {
		s string
		e api.Errno
	}{
		{"", api.ErrShort},
		{"\x81", api.ErrShort},
		{full, api.ErrShort},
		{full + "\x81", api.ErrShort},
		{"\x81\x00", api.ErrVarint},
		{noughts + "\x00", api.ErrVarint},
		{full + "\x02", api.ErrVarint},
		{full + "\x82", api.ErrVarint},
		{full + "\x81\x00", api.ErrVarint},
		{full + "\x81\x01", api.ErrVarint},
	} {
		checkGet(t, x.s, 0, 0, x.e)
		checkGetInt(t, x.s, 0, 0, x.e)
	}
}

// P1, P2.1: of any bytes Get answers what Put makes, or an error and nothing beside it.
func FuzzGet(f *testing.F) {
	for _, x := range known {
		f.Add(x.s + "z")
	}
	for _, s := range []string{"", "\x80", "\x80\x00", full, full + "\x02", full + "\x81", noughts + "\x80\x01"} {
		f.Add(s)
	}
	f.Fuzz(func(t *testing.T, s string) {
		n, many, e := varint.Get(s)
		if e == api.OK {
			if want := digits(n); many != len(want) || s[:many] != want {
				t.Errorf("Get(%q) = %d, %d, but its bytes are %q", s, n, many, want)
			}
			return
		}
		if n != 0 || many != 0 || e != api.ErrShort && e != api.ErrVarint {
			t.Errorf("Get(%q) = %d, %d, %v", s, n, many, e)
		}
	})
}
