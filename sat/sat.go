// Package sat has sums that stay within the numbers there are.
package sat

import "tidewaiter/api"

// Add: a sum, or the end beyond which it would be.
func Add(a, b int) int {
	// The ends are moved by b, never a: the side that is asked can't wrap round itself.
	if b > 0 && a > api.Most-b {
		return api.Most
	}
	if b < 0 && a < api.Least-b {
		return api.Least
	}
	return a + b
}

// Sub: a difference, likewise.
func Sub(a, b int) int {
	// Not Add of a and -b: of the least number there is no opposite.
	if b < 0 && a > api.Most+b {
		return api.Most
	}
	if b > 0 && a < api.Least+b {
		return api.Least
	}
	return a - b
}

// Sum: of all, one behind the other.
func Sum(l ...int) int {
	sum := 0
	for _, n := range l {
		sum = Add(sum, n)
	}
	return sum
}

// Within: a number, or the end of a range beyond which it is.
func Within(n, least, most int) int {
	if n < least {
		return least
	}
	if n > most {
		return most
	}
	return n
}
