package lu

import (
	"testing"

	"actuary/mat"
	"actuary/pack"
	"actuary/rat"
	"actuary/vec"
	"actuary/whole"
)

// No answer tells whether the numbers on the way are whole, but how long the
// calls take does: so it is looked at from within.

// fractions is a Vec of texts.
func fractions(texts ...string) vec.Vec {
	row := vec.Vec{}
	for _, s := range texts {
		x, err := pack.Read(s)
		if err != nil {
			panic(s)
		}
		row = append(row, x)
	}
	return row
}

// TestP132Whole looks at what is kept of matrices in which the rows have
// different denominators, and change places.
func TestP132Whole(t *testing.T) {
	for _, rows := range [][]vec.Vec{
		{fractions("1/2", "1/3"), fractions("1/4", "1/5")},
		{fractions("0", "1/3", "2"), fractions("0", "2/7", "1/2"), fractions("-3/5", "4", "1/9")},
		{
			fractions("1/2", "1/3", "1/5", "1/7"), fractions("1/3", "2/9", "1/6", "3/8"),
			fractions("0", "0", "5/11", "-1/4"), fractions("3", "-1/13", "7", "0"),
		},
	} {
		n := len(rows)
		m, _ := mat.Of(n, rows...)
		f, ok := Factor(m)
		if !ok {
			t.Fatal("no factorization of", rows)
		}
		for r := range n {
			for c, x := range f.rows[r] {
				if !x.IsInt() {
					t.Errorf("%s at %d, %d", pack.Text(x), r, c)
				}
			}
			if want := whole.Denominator(rows[f.perm[r]]); !rat.Same(f.times[r], want) {
				t.Errorf("row %d is made whole by %s; want %s", r, pack.Text(f.times[r]), pack.Text(want))
			}
		}
		// Without the divisions they would be whole, too, but far longer.
		det := f.raised
		for k := range n {
			det = rat.Mul(det, f.Upper().At(k, k))
		}
		if last := lead(f.rows, n-1); !rat.Same(last.Abs(), det.Abs()) {
			t.Errorf("the last lead is %s; want %s, but for its sign", pack.Text(last), pack.Text(det))
		}
	}
}
