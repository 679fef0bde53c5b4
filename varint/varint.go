// Package varint has numbers as bytes, of as many as they need.
package varint

import "tidewaiter/api"

// base is the digits' base, and what each byte but the last one has more than its digit.
const (
	base      = 128
	digitBits = 7
)

// A number below 2^64 has mostBytes bytes at most: nine digits have 63 of its bits, and the tenth has the one that is left.
const (
	mostBytes = 10
	mostTenth = 1
)

// Put: a number's digits to the base 128 behind bytes, the lowest first.
func Put(b []byte, n uint64) []byte {
	for n >= base {
		b = append(b, byte(n%base)+base)
		n /= base
	}
	return append(b, byte(n))
}

// Get: the number with which bytes begin, and how many it has; or why with none.
func Get(s string) (uint64, int, api.Errno) {
	var n uint64
	for i := range len(s) {
		digit := s[i] % base
		if !fits(i, digit) {
			return 0, 0, api.ErrVarint
		}
		n += uint64(digit) << (digitBits * i)
		if s[i] >= base {
			continue
		}
		// Each number has one form alone: a 0 on top would be a second one.
		if digit == 0 && i > 0 {
			return 0, 0, api.ErrVarint
		}
		return n, i + 1, api.OK
	}
	return 0, 0, api.ErrShort
}

// fits: may a number below 2^64 have that digit there?
func fits(place int, digit byte) bool {
	if place == mostBytes-1 {
		return digit <= mostTenth
	}
	return place < mostBytes
}

// Fold: 0, -1, 1, -2, 2 .. as 0, 1, 2, 3, 4 .. Back: back.
func Fold(n int) uint64 {
	// Below 0 the bits are turned ahead of doubling, so that the least number has a place too.
	if n < 0 {
		return 2*uint64(^n) + 1
	}
	return 2 * uint64(n)
}

func Back(n uint64) int {
	half := int(n / 2)
	if n%2 == 1 {
		return ^half
	}
	return half
}

// PutInt, GetInt: folded numbers.
func PutInt(b []byte, n int) []byte { return Put(b, Fold(n)) }

func GetInt(s string) (int, int, api.Errno) {
	n, size, e := Get(s)
	if e != api.OK {
		return 0, 0, e
	}
	return Back(n), size, api.OK
}
