// Package fix is layer 1, numbers with 16 bits behind the point: see
// shared/doc/01-fix.md.
package fix

import "switchboard/api"

// Hold: between -Top and Top.
func Hold(n int) int {
	if n > api.Top {
		return api.Top
	}
	if n < -api.Top {
		return -api.Top
	}
	return n
}

// Add: the sum. Both are held ahead of it, as the sum of two ints may wrap
// round.
func Add(a int, b int) int {
	return Hold(Hold(a) + Hold(b))
}

// Sub: the difference. Both are held ahead of it, as the difference of two
// ints may wrap round.
func Sub(a int, b int) int {
	return Hold(Hold(a) - Hold(b))
}

// Mul: the product. That of two held numbers is below 2^62, so it does not
// wrap round; it is divided, not shifted, as a shift cuts off downwards and
// not towards 0.
func Mul(a int, b int) int {
	return Hold(Hold(a) * Hold(b) / api.One)
}
