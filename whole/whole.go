// Package whole makes fractions whole numbers.
package whole

import (
	"actuary/rat"
	"actuary/vec"
)

// Denominator is the least number above 0 that makes all of a row whole.
func Denominator(row vec.Vec) rat.Rat {
	least := rat.Int(1)
	for _, x := range row {
		part := rat.Mul(least, x)
		if !part.IsInt() {
			rest, _ := rat.Div(rat.Whole(part.Num()), part)
			least = rat.Mul(least, rest)
		}
	}
	return least
}
