package lu

import (
	"testing"

	"actuary/mat"
	"actuary/pack"
	"actuary/rat"
	"actuary/vec"
)

// No answer tells whether the numbers on the way are whole, but how long the
// calls take does: so it is looked at from within.

// fractions is a Vec of texts.
func fractions(texts ...string) vec.Vec {
	row := vec.Vec{}
	for _, s := range texts {
		x, err := pack.Read(s)
		if err != nil {
			panic(s)
		}
		row = append(row, x)
	}
	return row
}

func TestP132Denominator(t *testing.T) {
	for _, c := range []struct {
		row  vec.Vec
		want string
	}{
		{fractions(), "1"},
		{fractions("0"), "1"},
		{fractions("6", "-4", "0"), "1"},
		{fractions("1/2"), "2"},
		{fractions("-3/2"), "2"},
		{fractions("0", "-2/3", "0"), "3"},
		{fractions("1/2", "1/3"), "6"},
		{fractions("1/6", "1/4"), "12"},
		{fractions("1/4", "5/6", "-7/10", "8"), "60"},
		{fractions("5/12", "1/4", "1/3"), "12"},
		{fractions("1/18446744073709551616", "1/6"), "55340232221128654848"},
	} {
		if got := pack.Text(denominator(c.row)); got != c.want {
			t.Errorf("denominator of %v is %s; want %s", c.row, got, c.want)
		}
	}
}

// TestP132Whole looks at what is kept of matrices in which the rows have
// different denominators, and change places.
func TestP132Whole(t *testing.T) {
	for _, rows := range [][]vec.Vec{
		{fractions("1/2", "1/3"), fractions("1/4", "1/5")},
		{fractions("0", "1/3", "2"), fractions("0", "2/7", "1/2"), fractions("-3/5", "4", "1/9")},
		{
			fractions("1/2", "1/3", "1/5", "1/7"), fractions("1/3", "2/9", "1/6", "3/8"),
			fractions("0", "0", "5/11", "-1/4"), fractions("3", "-1/13", "7", "0"),
		},
	} {
		n := len(rows)
		m, _ := mat.Of(n, rows...)
		f, ok := Factor(m)
		if !ok {
			t.Fatal("no factorization of", rows)
		}
		for r := range n {
			for c, x := range f.rows[r] {
				if !x.IsInt() {
					t.Errorf("%s at %d, %d", pack.Text(x), r, c)
				}
			}
			if want := denominator(rows[f.perm[r]]); !rat.Same(f.times[r], want) {
				t.Errorf("row %d is made whole by %s; want %s", r, pack.Text(f.times[r]), pack.Text(want))
			}
		}
		// Without the divisions they would be whole, too, but far longer.
		det := f.raised
		for k := range n {
			det = rat.Mul(det, f.Upper().At(k, k))
		}
		if last := lead(f.rows, n-1); !rat.Same(last.Abs(), det.Abs()) {
			t.Errorf("the last lead is %s; want %s, but for its sign", pack.Text(last), pack.Text(det))
		}
	}
}
