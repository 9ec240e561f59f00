package elim

import (
	"testing"

	"actuary/mat"
	"actuary/pack"
	"actuary/rat"
	"actuary/vec"
)

// No answer tells whether the numbers on the way are whole, but how long the
// calls take does: so it is looked at from within.

// fractions is a Vec of texts.
func fractions(texts ...string) vec.Vec {
	row := vec.Vec{}
	for _, s := range texts {
		x, err := pack.Read(s)
		if err != nil {
			panic(s)
		}
		row = append(row, x)
	}
	return row
}

// TestP121Whole looks at the rows that come of elimination: they are whole, and
// lead with the determinant of the columns that lead.
func TestP121Whole(t *testing.T) {
	rows := []vec.Vec{
		fractions("1/2", "1/3", "1/5", "1/7", "2"),
		fractions("1/3", "2/9", "1/6", "3/8", "-1"),
		fractions("0", "0", "5/11", "-1/4", "0"),
		fractions("5/6", "5/9", "11/30", "29/56", "1"),
		fractions("3", "-1/13", "7", "0", "4/3"),
	}
	for cols := range 6 {
		e := eliminate(cols, rows...)
		for r, row := range e.rows {
			for c, x := range row {
				if !x.IsInt() {
					t.Errorf("%s at %d, %d, where %d columns may lead", pack.Text(x), r, c, cols)
				}
			}
		}
		for r, c := range e.leads {
			if c >= cols || !rat.Same(e.rows[r][c], e.lead) {
				t.Errorf("row %d leads in column %d of %d with %s; want %s", r, c, cols, pack.Text(e.rows[r][c]), pack.Text(e.lead))
			}
		}
	}
}

// TestP122Raised has rows made whole by 6, 12 and 60.
func TestP122Raised(t *testing.T) {
	m, _ := mat.Of(3, fractions("1", "1/2", "1/3"), fractions("1/2", "1/3", "1/4"), fractions("1/3", "1/4", "1/5"))
	e := eliminate(3, rowsOf(m)...)
	if pack.Text(e.lead) != "2" || pack.Text(e.raised) != "4320" {
		t.Error("the determinant 1/2160 is", pack.Text(e.lead), "by", pack.Text(e.raised))
	}
}
