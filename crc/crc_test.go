package crc_test

import (
	"hash/crc32"
	"strings"
	"testing"
	"unsafe"

	"tidewaiter/crc"
)

// powers: those of the polynomial, x^32 among them.
var powers = []int{32, 26, 23, 22, 16, 12, 11, 10, 8, 7, 5, 4, 2, 1, 0}

// divided: the sum of bytes as the document has it, bit by bit, without a table.
func divided(s string) uint32 {
	var bits []bool
	for i := range len(s) {
		for bit := range 8 {
			bits = append(bits, s[i]>>bit&1 == 1)
		}
	}
	bits = append(bits, make([]bool, 32)...)
	for i := range 32 {
		bits[i] = !bits[i]
	}
	for i := range len(bits) - 32 {
		if !bits[i] {
			continue
		}
		for _, power := range powers {
			bits[i+32-power] = !bits[i+32-power]
		}
	}
	sum := uint32(0)
	for i, bit := range bits[len(bits)-32:] {
		if !bit {
			sum |= 1 << i
		}
	}
	return sum
}

// mixed: that many bytes of all sorts, the same ones each time.
func mixed(many int) string {
	b := make([]byte, many)
	n := uint32(many + 1)
	for i := range b {
		n = n*1664525 + 1013904223
		b[i] = byte(n >> 24)
	}
	return string(b)
}

// texts: none, short ones below and about the sum's own four bytes, and longer ones.
func texts() []string {
	l := []string{
		"", "\x00", "\x00\x00\x00\x00", "\xFF", "\xFF\xFF\xFF", "\xFF\xFF\xFF\xFF", "\xFF\xFF\xFF\xFF\xFF",
		"a", "abc", "abcd", "123456789", "\u00e4\u20ac", "a\xE8\xB7\xBE\x43",
		strings.Repeat("\x00", 300), strings.Repeat("\xFF", 300),
	}
	for many := range 70 {
		l = append(l, mixed(many))
	}
	return append(l, mixed(1000), mixed(1<<16), mixed(1<<16+7))
}

// P3.1: known sums, the document's example among them.
func TestSumOfKnownTexts(t *testing.T) {
	table := crc.New()
	for s, want := range map[string]uint32{
		"":                 0,
		"\x00":             0xD202EF8D,
		"\xFF":             0xFF000000,
		"\x00\x00\x00\x00": 0x2144DF1C,
		"\xFF\xFF\xFF\xFF": 0xFFFFFFFF,
		"a":                0xE8B7BE43,
		"abc":              0x352441C2,
		"123456789":        0xCBF43926,
		"The quick brown fox jumps over the lazy dog": 0x414FA339,
	} {
		if got := table.Sum(s); got != want {
			t.Errorf("Sum(%q) = %#x, want %#x", s, got, want)
		}
	}
}

// P3.1: of all texts of up to two bytes, and of others, what division bit by bit leaves.
func TestSumIsWhatDivisionLeaves(t *testing.T) {
	table := crc.New()
	l := texts()
	for a := range 256 {
		l = append(l, string([]byte{byte(a)}))
		for b := range 256 {
			l = append(l, string([]byte{byte(a), byte(b)}))
		}
	}
	for _, s := range l {
		if got, want := table.Sum(s), divided(s); got != want {
			t.Errorf("Sum of %.40q (%d bytes) = %#x, want %#x", s, len(s), got, want)
		}
	}
}

// P3.1: two Tables have the same sums, and a sum hangs on its text alone, not on those that were asked ahead of it.
func TestSumHangsOnItsTextAlone(t *testing.T) {
	one, other := crc.New(), crc.New()
	for _, s := range texts() {
		want := one.Sum(s)
		one.Seal(s)
		one.Open(s)
		if again, fresh := one.Sum(s), other.Sum(s); again != want || fresh != want {
			t.Errorf("Sum of %.40q: %#x, then %#x, by another Table %#x", s, want, again, fresh)
		}
	}
	if *one != *other {
		t.Error("a Table is changed by its calls")
	}
}

// P2: a Table that is answered shares nothing with another one.
func TestNewIsNew(t *testing.T) {
	one, other := crc.New(), crc.New()
	clear(one[:])
	for _, table := range []*crc.Table{other, crc.New()} {
		if got := table.Sum("123456789"); got != 0xCBF43926 {
			t.Errorf("Sum by a Table, when another one was cleared: %#x", got)
		}
	}
}

// P3.2: a text's sum stands behind it, the highest byte first.
func TestSealOfKnownTexts(t *testing.T) {
	table := crc.New()
	for s, want := range map[string]string{
		"":                 "\x00\x00\x00\x00",
		"a":                "a\xE8\xB7\xBE\x43",
		"\x00":             "\x00\xD2\x02\xEF\x8D",
		"\xFF":             "\xFF\xFF\x00\x00\x00",
		"123456789":        "123456789\xCB\xF4\x39\x26",
		"\x00\x00\x00\x00": "\x00\x00\x00\x00\x21\x44\xDF\x1C",
	} {
		if got := table.Seal(s); got != want {
			t.Errorf("Seal(%q) = %q, want %q", s, got, want)
		}
		checkOpen(t, table, want, s, true)
	}
}

// P3.2: Seal and Open there and back, also of what is a Seal already.
func TestOpenOfSeals(t *testing.T) {
	table := crc.New()
	for _, s := range texts() {
		sum := divided(s)
		sealed := table.Seal(s)
		if want := s + string([]byte{byte(sum >> 24), byte(sum >> 16), byte(sum >> 8), byte(sum)}); sealed != want {
			t.Errorf("Seal of %.40q (%d bytes) is another one", s, len(s))
		}
		checkOpen(t, table, sealed, s, true)
		checkOpen(t, table, table.Seal(sealed), sealed, true)
	}
}

// P3.2: what is shorter than a sum is no Seal, nor are four bytes but of the empty text.
func TestOpenOfShortTexts(t *testing.T) {
	table := crc.New()
	for many := range 4 {
		checkOpen(t, table, strings.Repeat("\x00", many), "", false)
		checkOpen(t, table, "\xE8\xB7\xBE\x43"[:many], "", false)
	}
	checkOpen(t, table, "\x00\x00\x00\x00", "", true)
	for place := range 4 {
		for b := 1; b < 256; b++ {
			four := make([]byte, 4)
			four[place] = byte(b)
			checkOpen(t, table, string(four), "", false)
		}
	}
}

// P3.2: one bit that is turned, one byte too few or too many, or a sum the other way round: no Seal.
func TestOpenOfWrongSeals(t *testing.T) {
	table := crc.New()
	for _, s := range []string{"a", "ab", "abc", "123456789", "\x00\x00", mixed(40)} {
		sealed := table.Seal(s)
		for bit := range 8 * len(sealed) {
			b := []byte(sealed)
			b[bit/8] ^= 1 << (bit % 8)
			checkOpen(t, table, string(b), "", false)
		}
		checkOpen(t, table, s, "", false)
		checkOpen(t, table, sealed[1:], "", false)
		checkOpen(t, table, sealed[:len(sealed)-1], "", false)
		checkOpen(t, table, sealed+"\x00", "", false)
		checkOpen(t, table, "\x00"+sealed, "", false)
		sum := sealed[len(s):]
		checkOpen(t, table, s+string([]byte{sum[3], sum[2], sum[1], sum[0]}), "", false)
		checkOpen(t, table, sum+s, "", false)
	}
}

// P2: what Open answers is new memory.
func TestOpenSharesNothing(t *testing.T) {
	sealed := crc.New().Seal("123456789")
	s, _ := crc.New().Open(sealed)
	if unsafe.StringData(s) == unsafe.StringData(sealed) {
		t.Error("Open answers a piece of its argument")
	}
}

// P1: by a Table of other remainders calls end and don't panic (what they answer isn't promised).
func TestCallsByAnyTable(t *testing.T) {
	table := new(crc.Table)
	for range 3 {
		for _, s := range texts() {
			table.Sum(s)
			table.Open(table.Seal(s))
			table.Open(s)
		}
		for i := range table {
			table[i] = table[i]*1664525 + uint32(i)<<20 + 1013904223
		}
	}
}

func checkOpen(t *testing.T, table *crc.Table, s, want string, wantOK bool) {
	t.Helper()
	if got, ok := table.Open(s); got != want || ok != wantOK {
		t.Errorf("Open(%.60q) = %.60q, %t, want %.60q, %t", s, got, ok, want, wantOK)
	}
}

// P1, P3.1, P3.2: of any bytes the sum that the library has; what Open answers has s as its Seal, and else nothing is there.
func FuzzSumAndOpen(f *testing.F) {
	table := crc.New()
	for _, s := range texts()[:60] {
		f.Add(s)
		f.Add(table.Seal(s))
	}
	f.Fuzz(func(t *testing.T, s string) {
		if got, want := table.Sum(s), crc32.ChecksumIEEE([]byte(s)); got != want {
			t.Errorf("Sum(%q) = %#x, want %#x", s, got, want)
		}
		checkOpen(t, table, table.Seal(s), s, true)
		got, ok := table.Open(s)
		if ok && table.Seal(got) != s || !ok && got != "" {
			t.Errorf("Open(%q) = %q, %t", s, got, ok)
		}
	})
}
