package whole_test

import (
	"testing"

	"actuary/pack"
	"actuary/vec"
	"actuary/whole"
)

// fractions is a Vec of texts.
func fractions(texts ...string) vec.Vec {
	row := vec.Vec{}
	for _, s := range texts {
		x, err := pack.Read(s)
		if err != nil {
			panic(s)
		}
		row = append(row, x)
	}
	return row
}

func TestDenominator(t *testing.T) {
	for _, c := range []struct {
		row  vec.Vec
		want string
	}{
		{nil, "1"},
		{fractions(), "1"},
		{fractions("0"), "1"},
		{fractions("0", "0"), "1"},
		{fractions("6", "-4", "0"), "1"},
		{fractions("1/2"), "2"},
		{fractions("-3/2"), "2"},
		{fractions("0", "-2/3", "0"), "3"},
		{fractions("1/2", "1/3"), "6"},
		{fractions("1/6", "1/4"), "12"},
		{fractions("1/4", "5/6", "-7/10", "8"), "60"},
		{fractions("5/12", "1/4", "1/3"), "12"},
		{fractions("1/18446744073709551616", "1/6"), "55340232221128654848"},
	} {
		was := c.row.Copy()
		if got := pack.Text(whole.Denominator(c.row)); got != c.want {
			t.Errorf("Denominator of %v is %s; want %s", c.row, got, c.want)
		}
		if !vec.Same(c.row, was) {
			t.Errorf("Denominator has made %v of %v", c.row, was)
		}
	}
}
