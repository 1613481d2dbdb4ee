// Package num is layer 1: numbers that do not go over: see shared/doc/01-num.md.
package num

import (
	"math"

	"lumper/api"
)

// Sum is the sum of all; with ErrOver as soon as the first ones go over, though later ones might bring the sum back.
func Sum(l ...int) (int, api.Errno) {
	sum, e := 0, api.OK
adding:
	for _, n := range l {
		next := sum + n
		switch {
		case n > 0 && next < sum, n < 0 && next > sum:
			sum, e = 0, api.ErrOver
			break adding
		default:
			sum = next
		}
	}
	return sum, e
}

// Mul is the product of two.
func Mul(a, b int) (int, api.Errno) {
	if a == 0 {
		return 0, api.OK
	}
	product := a * b
	// The least number through -1 wraps to itself, so dividing back would not show that this product went over.
	wraps := a == -1 && b == math.MinInt
	if wraps || product/a != b {
		return 0, api.ErrOver
	}
	return product, api.OK
}

// Div is a through b, downwards.
func Div(a, b int) (int, api.Errno) {
	if b <= 0 {
		return 0, api.ErrZero
	}
	down, _ := floor(a, b)
	return down, api.OK
}

// Half is a through b, to the nearest number, upwards from the middle.
func Half(a, b int) (int, api.Errno) {
	if b <= 0 {
		return 0, api.ErrZero
	}
	down, rest := floor(a, b)
	// Twice the rest might go over; what is left up to b does not.
	if rest >= b-rest {
		return down + 1, api.OK
	}
	return down, api.OK
}

// Up is a through b, upwards.
func Up(a, b int) (int, api.Errno) {
	if b <= 0 {
		return 0, api.ErrZero
	}
	down, rest := floor(a, b)
	if rest > 0 {
		return down + 1, api.OK
	}
	return down, api.OK
}

// Gcd is the greatest number that divides both; 0 of 0 and 0.
func Gcd(a, b int) int {
	a, b = side(a), side(b)
	for b != 0 {
		a, b = b, a%b
	}
	return a
}

// floor is a through b, downwards, and the rest, from 0 to b - 1; b is above 0.
// Where there is a rest, b is at least 2, so that neither the quotient less 1 nor the one more goes over.
func floor(a, b int) (int, int) {
	down, rest := a/b, a%b
	if rest < 0 {
		return down - 1, rest + b
	}
	return down, rest
}

// side is a number without its sign; the least number's other side is no number, and the greatest power of two that divides it stands for it.
func side(n int) int {
	if n == math.MinInt {
		return 1 << 62
	}
	if n < 0 {
		return -n
	}
	return n
}
