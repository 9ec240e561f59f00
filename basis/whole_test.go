package basis

import (
	"slices"
	"testing"

	"actuary/elim"
	"actuary/mat"
	"actuary/pack"
	"actuary/rat"
	"actuary/vec"
	"actuary/whole"
)

// No answer tells whether the numbers on the way are whole, but how long the
// calls take does: so it is looked at from within.

// fractions is a Vec of texts.
func fractions(texts ...string) vec.Vec {
	row := vec.Vec{}
	for _, s := range texts {
		x, err := pack.Read(s)
		if err != nil {
			panic(s)
		}
		row = append(row, x)
	}
	return row
}

// det is the determinant of columns, each made whole.
func det(cols []vec.Vec) rat.Rat {
	var rows []vec.Vec
	for _, col := range cols {
		rows = append(rows, vec.Scale(whole.Denominator(col), col))
	}
	m, _ := mat.Of(len(rows), rows...)
	d, _ := elim.Det(m)
	return d
}

// TestP143Whole looks at what is kept of replacements: the determinants with
// the new column in each one's place, and no number that is longer.
func TestP143Whole(t *testing.T) {
	cols := []vec.Vec{
		fractions("1/2", "1/3", "1/5", "1/7"), fractions("1/3", "2/9", "1/6", "3/8"),
		fractions("0", "0", "5/11", "-1/4"), fractions("3", "-1/13", "7", "0"),
	}
	b, err := New(cols...)
	if err != nil {
		t.Fatal(err)
	}
	for i, col := range []vec.Vec{
		fractions("1/17", "0", "-2/3", "5"), fractions("4", "1/6", "1/10", "1/15"), fractions("0", "0", "1", "0"), fractions("-3/4", "1/9", "0", "2"),
		fractions("1", "2", "3", "4"), fractions("1/2", "1/2", "1/2", "1/3"), fractions("0", "1/19", "1/23", "0"), fractions("6/5", "5/6", "7/8", "8/7"),
	} {
		k := (i * 3) % 4
		if err := b.Replace(k, col); err != nil {
			t.Fatal(i, err)
		}
		for j, share := range b.etas[i].shares {
			with := slices.Clone(cols)
			if with[j] = col; !rat.Same(share, det(with)) {
				t.Errorf("share %d of replacement %d is %s; want %s", j, i, pack.Text(share), pack.Text(det(with)))
			}
		}
		cols[k] = col
		if got := b.det(i + 1); !rat.Same(got, det(cols)) {
			t.Errorf("the determinant behind replacement %d is %s; want %s", i, pack.Text(got), pack.Text(det(cols)))
		}
		for j, times := range b.times {
			if want := whole.Denominator(cols[j]); !rat.Same(times, want) {
				t.Errorf("column %d is made whole by %s; want %s", j, pack.Text(times), pack.Text(want))
			}
		}
	}
}

// TestP143Anew looks whether the matrix is taken apart anew, and what was kept
// of the replacements before is gone.
func TestP143Anew(t *testing.T) {
	b, _ := New(fractions("1", "0"), fractions("1", "1"))
	for i := range 20 {
		before := b.parts
		if err := b.Replace(0, vec.Of(i+2, 1)); err != nil {
			t.Fatal(i, err)
		}
		anew := i%9 == 8
		if len(b.etas) != (i+1)%9 || (b.parts != before) != anew {
			t.Errorf("behind %d replacements there are %d etas, and it is taken apart anew: %t", i+1, len(b.etas), b.parts != before)
		}
	}
}
