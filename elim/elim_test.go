package elim_test

import (
	"math"
	"math/big"
	"math/rand/v2"
	"reflect"
	"slices"
	"strconv"
	"strings"
	"testing"

	"actuary/api"
	"actuary/elim"
	"actuary/mat"
	"actuary/pack"
	"actuary/rat"
	"actuary/vec"
)

// row is some fractions, as math/big has them.
type row = []*big.Rat

// grid is a matrix of these.
type grid struct {
	cols int
	rows []row
}

// fraction is that of a text.
func fraction(s string) *big.Rat {
	v, ok := new(big.Rat).SetString(s)
	if !ok {
		panic(s)
	}
	return v
}

// read is the fractions of a text.
func read(s string) row {
	all := row{}
	for _, word := range strings.Fields(s) {
		all = append(all, fraction(word))
	}
	return all
}

// of is the Rat of a fraction.
func of(v *big.Rat) rat.Rat {
	a, err := pack.Read(v.RatString())
	if err != nil {
		panic(v)
	}
	return a
}

// line is the Vec of some.
func line(vs row) vec.Vec {
	var a vec.Vec
	for _, v := range vs {
		a = append(a, of(v))
	}
	return a
}

// lines are those of several.
func lines(rows []row) []vec.Vec {
	var as []vec.Vec
	for _, vs := range rows {
		as = append(as, line(vs))
	}
	return as
}

// back is a Vec as math/big has it.
func back(a vec.Vec) row {
	vs := row{}
	for _, x := range a {
		vs = append(vs, fraction(pack.Text(x)))
	}
	return vs
}

// backGrid is a Mat as math/big has it.
func backGrid(m mat.Mat) grid {
	return filled(m.Rows(), m.Cols(), func(r, c int) *big.Rat {
		return fraction(pack.Text(m.At(r, c)))
	})
}

// sheet is the grid of some rows, each a text.
func sheet(cols int, rows ...string) grid {
	g := grid{cols: cols}
	for _, s := range rows {
		g.rows = append(g.rows, read(s))
	}
	return g
}

// filled is the grid of what at tells.
func filled(rows, cols int, at func(r, c int) *big.Rat) grid {
	g := grid{cols: cols, rows: make([]row, rows)}
	for r := range g.rows {
		g.rows[r] = row{}
		for c := range cols {
			g.rows[r] = append(g.rows[r], at(r, c))
		}
	}
	return g
}

// one has 1 from corner to corner.
func one(n int) grid {
	return filled(n, n, func(r, c int) *big.Rat { return whole(r == c) })
}

// whole is 1 or 0.
func whole(is bool) *big.Rat {
	if is {
		return big.NewRat(1, 1)
	}
	return new(big.Rat)
}

// mat is the Mat of g.
func (g grid) mat() mat.Mat {
	m, ok := mat.Of(g.cols, lines(g.rows)...)
	if !ok {
		panic(g.text())
	}
	return m
}

// col is a column of g.
func (g grid) col(c int) row {
	all := row{}
	for _, vs := range g.rows {
		all = append(all, vs[c])
	}
	return all
}

// square tells whether there are as many rows as columns.
func (g grid) square() bool {
	return len(g.rows) == g.cols
}

// text is g in words.
func (g grid) text() string {
	s := strconv.Itoa(len(g.rows)) + " by " + strconv.Itoa(g.cols) + ":"
	for _, vs := range g.rows {
		s += rowText(vs)
	}
	return s
}

func rowText(vs row) string {
	s := "["
	for _, v := range vs {
		s += " " + v.RatString()
	}
	return s + " ]"
}

func text(m mat.Mat) string {
	return backGrid(m).text()
}

func lineText(a vec.Vec) string {
	return rowText(back(a))
}

// dot is the sum of the products.
func dot(a, b row) *big.Rat {
	sum := new(big.Rat)
	for i, v := range a {
		sum.Add(sum, new(big.Rat).Mul(v, b[i]))
	}
	return sum
}

// times is g times a column.
func (g grid) times(x row) row {
	all := row{}
	for _, vs := range g.rows {
		all = append(all, dot(vs, x))
	}
	return all
}

// product is a times b.
func product(a, b grid) grid {
	return filled(len(a.rows), b.cols, func(r, c int) *big.Rat { return dot(a.rows[r], b.col(c)) })
}

// with is g with one more column.
func (g grid) with(b row) grid {
	return filled(len(g.rows), g.cols+1, func(r, c int) *big.Rat {
		if c == g.cols {
			return b[r]
		}
		return g.rows[r][c]
	})
}

// first is where a row is not 0 first; -1: it is all 0.
func first(vs row) int {
	return slices.IndexFunc(vs, func(v *big.Rat) bool { return v.Sign() != 0 })
}

// minus takes r times b from a.
func minus(a row, r *big.Rat, b row) row {
	all := row{}
	for i, v := range a {
		all = append(all, new(big.Rat).Sub(v, new(big.Rat).Mul(r, b[i])))
	}
	return all
}

// reduced is the reduced form, which is found row by row: each is brought to 0
// where the ones before lead, and these where it leads.
func (g grid) reduced() (grid, []int) {
	leading := map[int]row{}
	for _, vs := range g.rows {
		for c, above := range leading {
			vs = minus(vs, vs[c], above)
		}
		lead := first(vs)
		if lead < 0 {
			continue
		}
		part := new(big.Rat).Inv(vs[lead])
		vs = minus(make0(g.cols), part.Neg(part), vs)
		for c, above := range leading {
			leading[c] = minus(above, above[lead], vs)
		}
		leading[lead] = vs
	}
	var leads []int
	form := grid{cols: g.cols}
	for c := range g.cols {
		if vs := leading[c]; vs != nil {
			leads = append(leads, c)
			form.rows = append(form.rows, vs)
		}
	}
	for len(form.rows) < len(g.rows) {
		form.rows = append(form.rows, make0(g.cols))
	}
	return form, leads
}

// make0 is a row of 0.
func make0(n int) row {
	return filled(1, n, func(r, c int) *big.Rat { return new(big.Rat) }).rows[0]
}

// det is the determinant, by the first row: each element times that of what is
// left without its row and column, with signs that alternate.
func (g grid) det() *big.Rat {
	if g.cols == 0 {
		return big.NewRat(1, 1)
	}
	sum := new(big.Rat)
	for c, v := range g.rows[0] {
		if v.Sign() == 0 {
			continue
		}
		part := filled(g.cols-1, g.cols-1, func(i, j int) *big.Rat {
			if j >= c {
				j++
			}
			return g.rows[i+1][j]
		})
		add := new(big.Rat).Mul(v, part.det())
		if c%2 == 1 {
			add.Neg(add)
		}
		sum.Add(sum, add)
	}
	return sum
}

// memory is where the words and elements of what is handed in lie.
func memory(of ...any) map[uintptr]int {
	seen := map[uintptr]int{}
	for _, v := range of {
		look(reflect.ValueOf(v), seen)
	}
	return seen
}

func look(v reflect.Value, seen map[uintptr]int) {
	switch v.Kind() {
	case reflect.Slice:
		if v.Cap() > 0 {
			seen[v.Pointer()]++
		}
		for i := range v.Len() {
			look(v.Index(i), seen)
		}
	case reflect.Struct:
		for i := range v.NumField() {
			look(v.Field(i), seen)
		}
	case reflect.Pointer:
		if !v.IsNil() {
			seen[v.Pointer()]++
			look(v.Elem(), seen)
		}
	}
}

// apart fails the test, if two of what it is given, or two of one's parts, lie
// in the same memory.
func apart(t *testing.T, name string, of ...any) {
	t.Helper()
	for at, times := range memory(of...) {
		if times > 1 {
			t.Fatalf("%s: %d of them at %x", name, times, at)
		}
	}
}

// overwrite puts something else into each element, and behind the last one.
func overwrite(as ...vec.Vec) {
	for _, a := range as {
		for i := range a {
			a[i] = rat.Int(99)
		}
		_ = append(a, rat.Int(100))
	}
}

// unchanged fails the test, if m is no longer g.
func unchanged(t *testing.T, what string, m mat.Mat, g grid) {
	t.Helper()
	if text(m) != g.text() {
		t.Fatalf("%s has made %s of %s", what, text(m), g.text())
	}
}

// isZero fails the test, if m is not a zero Mat.
func isZero(t *testing.T, what string, m mat.Mat) {
	t.Helper()
	if !reflect.DeepEqual(m, mat.Mat{}) {
		t.Fatalf("%s: there is none, and yet it is %s", what, text(m))
	}
}

// shaped tells whether form is reduced, and leads are the columns of its leads,
// step by step as the chapter says what that is.
func shaped(form grid, leads []int) bool {
	for r, vs := range form.rows {
		lead := first(vs)
		if r >= len(leads) {
			if lead >= 0 {
				return false
			}
			continue
		}
		if lead != leads[r] || r > 0 && lead <= leads[r-1] || vs[lead].Cmp(whole(true)) != 0 {
			return false
		}
		for other, v := range form.col(lead) {
			if other != r && v.Sign() != 0 {
				return false
			}
		}
	}
	return len(leads) <= len(form.rows)
}

// holdsReduced holds Reduced and Rank against what is asked of g.
func holdsReduced(t *testing.T, g grid) {
	t.Helper()
	want, leads := g.reduced()
	m := g.mat()
	form, got := elim.Reduced(m)
	if text(form) != want.text() || !slices.Equal(got, leads) {
		t.Fatalf("Reduced of %s is %s, %v; want %s, %v", g.text(), text(form), got, want.text(), leads)
	}
	if !shaped(backGrid(form), got) {
		t.Fatalf("Reduced of %s is %s, %v: not reduced", g.text(), text(form), got)
	}
	if rank := elim.Rank(m); rank != len(leads) {
		t.Fatalf("Rank of %s is %d; want %d", g.text(), rank, len(leads))
	}
	as := lines(g.rows)
	if elim.Independent(g.cols, as...) != (len(leads) == len(g.rows)) {
		t.Fatalf("Independent of %s is not whether %d is its rank", g.text(), len(leads))
	}
	if !slices.EqualFunc(as, lines(g.rows), vec.Same) {
		t.Fatalf("Independent has changed the rows of %s", g.text())
	}
	unchanged(t, "Reduced", m, g)
	apart(t, "Reduced", m, form, got)
}

// holdsSquare holds Det and Inverse against what is asked of g, whose
// determinant is det.
func holdsSquare(t *testing.T, g grid, det *big.Rat) {
	t.Helper()
	m := g.mat()
	d, ok := elim.Det(m)
	if ok != g.square() || pack.Text(d) != det.RatString() {
		t.Fatalf("Det of %s is %s, %t; want %s", g.text(), pack.Text(d), ok, det.RatString())
	}
	inverse, ok := elim.Inverse(m)
	if ok != (g.square() && det.Sign() != 0) {
		t.Fatalf("Inverse of %s: %t, and yet the determinant is %s", g.text(), ok, det.RatString())
	}
	unchanged(t, "Det or Inverse", m, g)
	if !ok {
		isZero(t, "Inverse of "+g.text(), inverse)
		return
	}
	other := backGrid(inverse)
	left, right, want := product(other, g).text(), product(g, other).text(), one(g.cols).text()
	if left != want || right != want {
		t.Fatalf("Inverse of %s is %s: with it %s and %s", g.text(), other.text(), left, right)
	}
	apart(t, "Inverse", m, inverse, d)
}

// holdsSolve holds Solve against what is asked of g and b, which fit.
func holdsSolve(t *testing.T, g grid, b row) {
	t.Helper()
	_, leads := g.reduced()
	_, all := g.with(b).reduced()
	want := elim.One
	if len(all) > len(leads) {
		want = elim.None
	} else if len(leads) < g.cols {
		want = elim.Many
	}
	m, right := g.mat(), line(b)
	x, count, ok := elim.Solve(m, right)
	what := "Solve of " + g.text() + " and " + rowText(b)
	if !ok || count != want {
		t.Fatalf("%s: %d, %t; want %d", what, count, ok, want)
	}
	unchanged(t, what, m, g)
	if lineText(right) != rowText(b) {
		t.Fatalf("%s has made %s of that", what, lineText(right))
	}
	if want == elim.None {
		if len(x) != 0 {
			t.Fatalf("%s: there is none, and yet it is %s", what, lineText(x))
		}
		return
	}
	if len(x) != g.cols || rowText(g.times(back(x))) != rowText(b) {
		t.Fatalf("%s is %s: no solution", what, lineText(x))
	}
	for c, v := range x {
		if !v.Zero() && !slices.Contains(leads, c) {
			t.Fatalf("%s is %s: not 0 in column %d, without a lead", what, lineText(x), c)
		}
	}
	apart(t, what, m, right, x)
}

// holdsKernel holds Kernel against what is asked of g.
func holdsKernel(t *testing.T, g grid) {
	t.Helper()
	_, leads := g.reduced()
	m := g.mat()
	kernel := elim.Kernel(m)
	k := 0
	for c := range g.cols {
		if slices.Contains(leads, c) {
			continue
		}
		if k == len(kernel) {
			t.Fatalf("Kernel of %s has only %d: none for column %d", g.text(), k, c)
		}
		x := kernel[k]
		if len(x) != g.cols || rowText(g.times(back(x))) != rowText(make0(len(g.rows))) {
			t.Fatalf("Kernel of %s has %s: not 0 with it", g.text(), lineText(x))
		}
		for other, v := range back(x) {
			if !slices.Contains(leads, other) && v.Cmp(whole(other == c)) != 0 {
				t.Fatalf("Kernel of %s has %s for column %d", g.text(), lineText(x), c)
			}
		}
		k++
	}
	if k != len(kernel) {
		t.Fatalf("Kernel of %s has %d; want %d", g.text(), len(kernel), k)
	}
	unchanged(t, "Kernel", m, g)
	apart(t, "Kernel", m, kernel)
}

// numbers are so many that differ.
func numbers(n int) row {
	all := row{}
	for i := range n {
		all = append(all, big.NewRat(int64(3*i-40), int64(7+i%2)))
	}
	return all
}

// rights are some b that fit g: 0, what there surely is an x for, and what
// there often is none for.
func rights(g grid) []row {
	all := []row{make0(len(g.rows)), g.times(numbers(g.cols)), numbers(len(g.rows))}
	for k := range min(len(g.rows), 3) {
		all = append(all, one(len(g.rows)).rows[k])
	}
	return all
}

// edges are the matrices that are easily got wrong.
func edges() []grid {
	all := []grid{
		// no rows, no columns, one of each
		sheet(0), sheet(1), sheet(2), sheet(63), sheet(64),
		sheet(0, ""), sheet(0, "", ""), {0, make([]row, 64)},
		sheet(1, "0"), sheet(1, "1"), sheet(1, "-5"), sheet(1, "-2/3"),
		sheet(4, "0 0 0 0"), sheet(4, "0 0 -2 3"), sheet(4, "1/2 0 0 7"),
		sheet(1, "0", "0", "0"), sheet(1, "0", "0", "5"), sheet(1, "3", "0", "-1/3"),

		// rows that are 0
		sheet(2, "0 0", "1 2", "3 4"), sheet(2, "1 2", "0 0", "3 4"), sheet(2, "1 2", "3 4", "0 0"),
		sheet(2, "0 0", "0 0", "1 2"), sheet(2, "0 0", "1 2", "0 0", "3 4", "0 0"),
		sheet(3, "0 0 0", "0 0 0", "0 0 0"),

		// columns that are 0
		sheet(3, "0 1 2", "0 3 4"), sheet(3, "1 2 0", "3 4 0"), sheet(3, "1 0 2", "3 0 4"),
		sheet(4, "0 0 1 2", "0 0 3 4"), sheet(5, "0 1 0 2 0", "0 3 0 4 0"), sheet(3, "0 0 5", "0 0 6"),

		// rows that hang on others
		sheet(2, "1 2", "1 2"), sheet(2, "1 2", "-3 -6"), sheet(2, "1 2", "1/3 2/3"), sheet(3, "2 4 0", "1 2 1"),
		sheet(3, "1 2 3", "4 5 6", "5 7 9"), sheet(3, "5 7 9", "1 2 3", "4 5 6"), sheet(3, "1 2 3", "2 4 6", "1 1 1"),
		sheet(3, "0 0 1", "0 0 2", "0 3 0"), sheet(3, "1 2 3", "4 5 6", "7 8 9"),

		// a lead from a lower row
		sheet(2, "0 1", "1 0"), sheet(3, "0 0 1", "0 1 0", "1 0 0"), sheet(3, "0 1 0", "0 0 1", "1 0 0"),
		sheet(3, "0 2 4", "0 0 5", "3 0 6"), sheet(3, "1 2 3", "2 4 7", "3 7 9"), sheet(3, "1 1 1", "1 1 2", "1 1 3"),
		sheet(4, "0 0 0 2", "0 0 3 0", "0 4 0 0", "5 0 0 0"),

		// what is reduced already, and what is nearly so
		sheet(3, "1 0 0", "0 1 0", "0 0 1"), sheet(4, "1 2 0 3", "0 0 1 4", "0 0 0 0"), sheet(4, "0 1 -1/2 0", "0 0 0 1"),
		sheet(2, "1 2", "0 1"), sheet(2, "2 0", "0 3"), sheet(2, "0 0", "1 0"), sheet(3, "1 0 0", "0 0 1", "0 1 0"),

		// fractions and long numbers
		sheet(2, "1/2 1/3", "1/4 1/5"), sheet(3, "1 1/2 1/3", "1/2 1/3 1/4", "1/3 1/4 1/5"),
		sheet(2, "18446744073709551616 1", "1 18446744073709551616"),
		sheet(2, "1/18446744073709551617 18446744073709551615", "-36893488147419103235/7 1"),
		sheet(2, "18446744073709551616 2", "9223372036854775808 1"),
		sheet(3, "1/6 1/10 1/15", "6/35 2/3 -5/7", "1 2 3/4"),
	}
	for _, n := range []int{63, 64} {
		all = append(all, one(n), filled(n, n, func(r, c int) *big.Rat { return whole(r+c == n-1) }))
		all = append(all, filled(n, 2, func(r, c int) *big.Rat { return big.NewRat(int64(r*c), 7) }))
		all = append(all, filled(2, n, func(r, c int) *big.Rat { return big.NewRat(int64(r*c-3), 5) }))
	}
	return all
}

// dice makes each number from the same start, in each run of the tests.
type dice struct{ *rand.Rand }

func rolled(seed uint64) dice {
	return dice{rand.New(rand.NewPCG(seed, 36))}
}

// grid is one of so many rows and columns: whole numbers and broken ones, many
// of them 0, and rows that hang on those above.
func (d dice) grid(rows, cols int) grid {
	bound, broken := 1+d.Int64N(9), 1+d.Int64N(4)
	g := filled(rows, cols, func(r, c int) *big.Rat {
		if d.IntN(3) == 0 {
			return new(big.Rat)
		}
		return big.NewRat(d.Int64N(2*bound+1)-bound, 1+d.Int64N(broken))
	})
	for r := 1; r < rows; r++ {
		if d.IntN(4) == 0 {
			g.rows[r] = minus(g.rows[d.IntN(r)], big.NewRat(d.Int64N(5)-2, 3), g.rows[d.IntN(r)])
		}
	}
	return g
}

// eachSmall has something done with all 2 by 2, 2 by 3 and 3 by 2 matrices of
// some numbers, and with many 3 by 3 ones.
func eachSmall(do func(g grid)) {
	few, fewer := read("0 1 -1 2 -1/2"), read("0 1 -2")
	every(2, 2, few, do)
	every(2, 3, fewer, do)
	every(3, 2, fewer, do)
	d := rolled(1)
	for range 1200 {
		do(filled(3, 3, func(r, c int) *big.Rat { return few[d.IntN(len(few))] }))
	}
}

// every has something done with all matrices of some numbers.
func every(rows, cols int, vs row, do func(g grid)) {
	at := make([]int, rows*cols)
	for {
		do(filled(rows, cols, func(r, c int) *big.Rat { return vs[at[r*cols+c]] }))
		k := 0
		for k < len(at) && at[k] == len(vs)-1 {
			at[k] = 0
			k++
		}
		if k == len(at) {
			return
		}
		at[k]++
	}
}

// eachSize has something done with some of each pairing of a few rows and columns.
func eachSize(do func(g grid)) {
	d := rolled(2)
	for rows := range 7 {
		for cols := range 7 {
			for range 12 {
				do(d.grid(rows, cols))
			}
		}
	}
	for _, size := range [][2]int{{64, 3}, {3, 64}, {64, 1}, {1, 64}, {20, 20}, {12, 17}, {17, 12}, {9, 63}} {
		do(d.grid(size[0], size[1]))
	}
}

// eachGrid has something done with all of these.
func eachGrid(do func(g grid)) {
	for _, g := range edges() {
		do(g)
	}
	eachSmall(do)
	eachSize(do)
}

func TestP121Table(t *testing.T) {
	for _, c := range []struct {
		g, form grid
		leads   []int
	}{
		{sheet(3, "2 4 0", "1 2 1"), sheet(3, "1 2 0", "0 0 1"), []int{0, 2}},

		// no rows, no columns, neither, one of each
		{sheet(0), sheet(0), nil},
		{sheet(1), sheet(1), nil},
		{sheet(64), sheet(64), nil},
		{sheet(0, ""), sheet(0, ""), nil},
		{sheet(0, "", "", ""), sheet(0, "", "", ""), nil},
		{grid{0, make([]row, 64)}, grid{0, make([]row, 64)}, nil},
		{sheet(1, "0"), sheet(1, "0"), nil},
		{sheet(1, "5"), sheet(1, "1"), []int{0}},
		{sheet(1, "-2/3"), sheet(1, "1"), []int{0}},
		{sheet(3, "0 -2 3"), sheet(3, "0 1 -3/2"), []int{1}},
		{sheet(1, "0", "-2", "3"), sheet(1, "1", "0", "0"), []int{0}},

		// rows that are 0: at the top, between others, at the end, all
		{sheet(2, "0 0", "1 2", "3 4"), sheet(2, "1 0", "0 1", "0 0"), []int{0, 1}},
		{sheet(2, "1 2", "0 0", "3 4"), sheet(2, "1 0", "0 1", "0 0"), []int{0, 1}},
		{sheet(2, "1 2", "3 4", "0 0"), sheet(2, "1 0", "0 1", "0 0"), []int{0, 1}},
		{sheet(2, "0 0", "2 6", "0 0"), sheet(2, "1 3", "0 0", "0 0"), []int{0}},
		{sheet(2, "0 0", "0 0"), sheet(2, "0 0", "0 0"), nil},

		// columns that are 0: the first, the last, one between, all but one
		{sheet(3, "0 1 2", "0 3 4"), sheet(3, "0 1 0", "0 0 1"), []int{1, 2}},
		{sheet(3, "1 2 0", "3 4 0"), sheet(3, "1 0 0", "0 1 0"), []int{0, 1}},
		{sheet(3, "1 0 2", "3 0 4"), sheet(3, "1 0 0", "0 0 1"), []int{0, 2}},
		{sheet(3, "0 0 -7", "0 0 2"), sheet(3, "0 0 1", "0 0 0"), []int{2}},

		// rows that are equal, multiples of one another, the sum of others
		{sheet(2, "2 3", "2 3"), sheet(2, "1 3/2", "0 0"), []int{0}},
		{sheet(2, "2 3", "-4 -6", "1/2 3/4"), sheet(2, "1 3/2", "0 0", "0 0"), []int{0}},
		{sheet(3, "1 2 3", "4 5 6", "5 7 9"), sheet(3, "1 0 -1", "0 1 2", "0 0 0"), []int{0, 1}},
		{sheet(3, "5 7 9", "4 5 6", "1 2 3"), sheet(3, "1 0 -1", "0 1 2", "0 0 0"), []int{0, 1}},

		// a lead that comes from a lower row
		{sheet(2, "0 1", "1 0"), sheet(2, "1 0", "0 1"), []int{0, 1}},
		{sheet(3, "0 2 4", "0 0 0", "3 0 6"), sheet(3, "1 0 2", "0 1 2", "0 0 0"), []int{0, 1}},
		{sheet(3, "1 2 3", "2 4 7", "3 7 9"), sheet(3, "1 0 0", "0 1 0", "0 0 1"), []int{0, 1, 2}},
		{sheet(4, "0 0 0 2", "0 0 3 6", "0 0 0 0"), sheet(4, "0 0 1 0", "0 0 0 1", "0 0 0 0"), []int{2, 3}},

		// what is reduced already
		{sheet(4, "1 2 0 3", "0 0 1 4", "0 0 0 0"), sheet(4, "1 2 0 3", "0 0 1 4", "0 0 0 0"), []int{0, 2}},
		{sheet(4, "0 1 -1/2 0", "0 0 0 1"), sheet(4, "0 1 -1/2 0", "0 0 0 1"), []int{1, 3}},
		{one(64), one(64), one64()},

		// what is not, though it looks alike
		{sheet(2, "1 2", "0 1"), sheet(2, "1 0", "0 1"), []int{0, 1}},
		{sheet(2, "2 0", "0 -3"), sheet(2, "1 0", "0 1"), []int{0, 1}},
		{sheet(2, "1/2 1/3", "1/4 1/5"), sheet(2, "1 0", "0 1"), []int{0, 1}},
		{sheet(3, "1/2 1/3 1", "1/4 1/6 1/5"), sheet(3, "1 2/3 0", "0 0 1"), []int{0, 2}},
		{sheet(3, "2 1 1", "1 3 2"), sheet(3, "1 0 1/5", "0 1 3/5"), []int{0, 1}},
	} {
		m := c.g.mat()
		form, leads := elim.Reduced(m)
		if text(form) != c.form.text() || !slices.Equal(leads, c.leads) {
			t.Errorf("Reduced of %s is %s, %v; want %s, %v", c.g.text(), text(form), leads, c.form.text(), c.leads)
		}
		if rank := elim.Rank(m); rank != len(c.leads) {
			t.Errorf("Rank of %s is %d; want %d", c.g.text(), rank, len(c.leads))
		}
		unchanged(t, "Reduced", m, c.g)
	}
}

// one64 are 0 to 63.
func one64() []int {
	var all []int
	for c := range 64 {
		all = append(all, c)
	}
	return all
}

func TestP121Reduced(t *testing.T) {
	eachGrid(func(g grid) { holdsReduced(t, g) })
}

// TestP121Again reduces what is reduced.
func TestP121Again(t *testing.T) {
	for _, g := range edges() {
		form, leads := elim.Reduced(g.mat())
		again, same := elim.Reduced(form)
		if !mat.Same(form, again) || !slices.Equal(leads, same) {
			t.Errorf("%s, reduced again, is %s, %v", text(form), text(again), same)
		}
	}
}

// TestP121OneForm has rows exchanged, multiplied and added to others: the form
// stays the same.
func TestP121OneForm(t *testing.T) {
	d := rolled(3)
	for range 300 {
		g := d.grid(1+d.IntN(5), 1+d.IntN(6))
		form, leads := elim.Reduced(g.mat())
		for range 6 {
			a, b := d.IntN(len(g.rows)), d.IntN(len(g.rows))
			g.rows[a], g.rows[b] = g.rows[b], g.rows[a]
			factor := big.NewRat(1+d.Int64N(9), -3)
			g.rows[a] = minus(make0(g.cols), factor, g.rows[a])
			if a != b {
				g.rows[a] = minus(g.rows[a], factor, g.rows[b])
			}
		}
		same, columns := elim.Reduced(g.mat())
		if !mat.Same(form, same) || !slices.Equal(leads, columns) {
			t.Fatalf("%s is reduced to %s, %v; want %s, %v", g.text(), text(same), columns, text(form), leads)
		}
	}
}

// dense is the product of a lower and an upper matrix with 1 from corner to
// corner, but for the last places of the upper one: there stand these.
func dense(n int, last ...int64) grid {
	d := rolled(4)
	lower := filled(n, n, func(r, c int) *big.Rat {
		if r > c {
			return big.NewRat(d.Int64N(3)-1, 1)
		}
		return whole(r == c)
	})
	upper := filled(n, n, func(r, c int) *big.Rat {
		if r < c {
			return big.NewRat(d.Int64N(3)-1, 1)
		}
		return whole(r == c)
	})
	for i, v := range last {
		k := n - len(last) + i
		upper.rows[k][k].SetInt64(v)
	}
	return product(lower, upper)
}

// TestP121Great is of as many rows and columns as there may be.
func TestP121Great(t *testing.T) {
	g := dense(64, 7, -3)
	form, leads := elim.Reduced(g.mat())
	if text(form) != one(64).text() || !slices.Equal(leads, one64()) {
		t.Errorf("64 by 64: %s, %v", text(form), leads)
	}
	holdsReduced(t, dense(64, 7, 0))
	for c := range g.cols {
		g.rows[63][c].Add(g.rows[0][c], g.rows[62][c])
	}
	if rank := elim.Rank(g.mat()); rank != 63 {
		t.Errorf("64 by 64, where the last is a sum: Rank %d", rank)
	}
	if elim.Independent(64, lines(g.rows)...) || !elim.Independent(64, lines(g.rows[:63])...) {
		t.Error("64 rows of which the last is a sum, or the first 63")
	}
}

func TestP121Independent(t *testing.T) {
	for _, c := range []struct {
		cols int
		rows []string
		want bool
	}{
		{2, []string{"1 1", "2 1"}, true},
		{2, []string{"1 1", "2 2"}, false},

		// no rows, and numbers of columns that no matrix has
		{0, nil, true}, {1, nil, true}, {64, nil, true},
		{65, nil, false}, {-1, nil, false}, {math.MinInt, nil, false}, {math.MaxInt, nil, false},
		{-1, []string{""}, false}, {-1, []string{"1"}, false}, {math.MinInt, []string{"1"}, false}, {math.MaxInt, []string{"1"}, false},

		// no columns
		{0, []string{""}, false}, {0, []string{"", ""}, false}, {0, []string{"1"}, false},

		// one alone
		{1, []string{"1"}, true}, {1, []string{"-1/2"}, true}, {1, []string{"0"}, false},
		{3, []string{"0 0 1"}, true}, {3, []string{"0 0 0"}, false},

		// more rows than columns
		{1, []string{"1", "2"}, false}, {2, []string{"1 0", "0 1", "1 1"}, false}, {2, []string{"1 0", "0 1", "0 0"}, false},

		// equal, a multiple, a sum, 0 among others
		{3, []string{"1 2 3", "1 2 3"}, false}, {3, []string{"1 2 3", "-1/2 -1 -3/2"}, false}, {3, []string{"1 2 3", "1 2 4"}, true},
		{3, []string{"1 0 0", "0 1 0", "1 1 0"}, false}, {3, []string{"1 1 0", "1 0 0", "0 1 0"}, false}, {3, []string{"1 0 0", "0 1 0", "1 1 1"}, true},
		{2, []string{"0 0", "1 2"}, false}, {2, []string{"1 2", "0 0"}, false}, {2, []string{"0 1", "1 0"}, true},

		// one that is too short or too long: the first, the last, the only one, all
		{2, []string{"1", "0 1"}, false}, {2, []string{"1 0", "1"}, false}, {2, []string{"1 0 0", "0 1"}, false}, {2, []string{"1 0", "0 1 0"}, false},
		{2, []string{"1"}, false}, {2, []string{"1 0 0"}, false}, {2, []string{""}, false},
		{3, []string{"1 0", "0 1"}, false}, {1, []string{"1 0", "0 1"}, false}, {0, []string{"1 0", "0 1"}, false},
	} {
		as := lines(sheet(c.cols, c.rows...).rows)
		if elim.Independent(c.cols, as...) != c.want {
			t.Errorf("Independent(%d; %s) is %t", c.cols, strings.Join(c.rows, ", "), !c.want)
		}
		if !slices.EqualFunc(as, lines(sheet(c.cols, c.rows...).rows), vec.Same) {
			t.Errorf("Independent(%d; %s) has changed them", c.cols, strings.Join(c.rows, ", "))
		}
	}
}

func TestP121IndependentGreat(t *testing.T) {
	as := lines(one(64).rows)
	if !elim.Independent(64, as...) || !elim.Independent(64, as[:63]...) {
		t.Error("64 units, or 63")
	}
	if elim.Independent(64, append(slices.Clone(as), as[0])...) || elim.Independent(65, lines(one(65).rows)...) {
		t.Error("65 rows")
	}
	if elim.Independent(63, as...) || elim.Independent(65, as...) {
		t.Error("63 or 65 columns, where the rows have 64")
	}
	nils := make([]vec.Vec, 3)
	if elim.Independent(0, nils...) || elim.Independent(1, nils...) || !elim.Independent(2, nils[:0]...) {
		t.Error("rows that are nil")
	}
}

// TestP121RowsBehind hands in some rows of a slice, with others behind them.
func TestP121RowsBehind(t *testing.T) {
	long := vec.Of(1, 2, 77)
	rows := []vec.Vec{long[:2], vec.Of(3, 4), vec.Of(88)}
	if !elim.Independent(2, rows[:2]...) {
		t.Error("1 2 and 3 4")
	}
	if !vec.Same(long, vec.Of(1, 2, 77)) || len(rows[0]) != 2 || !vec.Same(rows[1], vec.Of(3, 4)) || !vec.Same(rows[2], vec.Of(88)) {
		t.Error("what lies behind the rows has changed:", long, rows)
	}
}

// TestP121ResultsAreNew changes what is returned.
func TestP121ResultsAreNew(t *testing.T) {
	g := sheet(3, "2 4 0", "1 2 1")
	m := g.mat()
	form, leads := elim.Reduced(m)
	same, again := elim.Reduced(m)
	apart(t, "two of Reduced", m, form, leads, same, again)
	clear(leads)
	_ = append(leads[:1], 55)
	if !slices.Equal(again, []int{0, 2}) {
		t.Error("the leads have become", again)
	}
	if changed, ok := form.With(0, 0, rat.Int(9)); !ok || text(same) != sheet(3, "1 2 0", "0 0 1").text() {
		t.Error(text(changed), text(same))
	}
	if _, last := elim.Reduced(m); !slices.Equal(last, []int{0, 2}) {
		t.Error("the leads, asked again, are", last)
	}
	unchanged(t, "what was returned", m, g)
	reduced, _ := elim.Reduced(form)
	apart(t, "Reduced of what is reduced", form, reduced)
}

func TestP122Det(t *testing.T) {
	for _, c := range []struct {
		g    grid
		want string
		ok   bool
	}{
		{sheet(2, "1 2", "3 4"), "-2", true},

		// no rows, one, and the identity
		{sheet(0), "1", true}, {sheet(1, "0"), "0", true}, {sheet(1, "7"), "7", true}, {sheet(1, "-7"), "-7", true}, {sheet(1, "-2/3"), "-2/3", true},
		{one(2), "1", true}, {one(3), "1", true}, {one(64), "1", true},

		// not square
		{sheet(1), "0", false}, {sheet(2), "0", false}, {sheet(64), "0", false},
		{sheet(0, ""), "0", false}, {sheet(0, "", ""), "0", false}, {grid{0, make([]row, 64)}, "0", false},
		{sheet(1, "1", "2"), "0", false}, {sheet(2, "1 2"), "0", false}, {sheet(3, "1 0 0", "0 1 0"), "0", false}, {sheet(2, "1 0", "0 1", "1 1"), "0", false},
		{grid{64, one(64).rows[:63]}, "0", false},

		// 0
		{sheet(2, "0 0", "0 0"), "0", true}, {sheet(2, "1 2", "2 4"), "0", true}, {sheet(2, "1 2", "0 0"), "0", true}, {sheet(2, "0 0", "1 2"), "0", true},
		{sheet(2, "0 1", "0 2"), "0", true}, {sheet(2, "1 0", "2 0"), "0", true}, {sheet(3, "1 2 3", "4 5 6", "7 8 9"), "0", true}, {sheet(3, "1 2 3", "4 5 6", "5 7 9"), "0", true},
		{sheet(2, "1/2 1/3", "1/4 1/6"), "0", true},

		// below 0, by rows that are exchanged: once, twice, thrice
		{sheet(2, "0 1", "1 0"), "-1", true}, {sheet(3, "0 1 0", "0 0 1", "1 0 0"), "1", true}, {sheet(3, "0 0 1", "0 1 0", "1 0 0"), "-1", true},
		{sheet(3, "0 0 1", "1 0 0", "0 1 0"), "1", true}, {sheet(4, "0 0 0 2", "0 0 3 0", "0 4 0 0", "5 0 0 0"), "120", true},
		{sheet(4, "0 1 0 0", "0 0 1 0", "0 0 0 1", "1 0 0 0"), "-1", true}, {sheet(4, "1 0 0 0", "0 0 0 1", "0 1 0 0", "0 0 1 0"), "1", true},
		{sheet(2, "0 5", "-3 4"), "15", true}, {sheet(2, "0 5", "3 4"), "-15", true}, {sheet(3, "1 2 3", "2 4 7", "3 7 9"), "-1", true},

		// below 0, by its numbers
		{sheet(2, "-1 0", "0 1"), "-1", true}, {sheet(2, "-1 0", "0 -1"), "1", true}, {sheet(3, "-2 0 0", "0 -3 0", "0 0 -5"), "-30", true},

		// not whole
		{sheet(2, "1/2 0", "0 1/3"), "1/6", true}, {sheet(2, "1/2 1/3", "1/4 1/5"), "1/60", true}, {sheet(2, "1/4 1/5", "1/2 1/3"), "-1/60", true},
		{sheet(3, "1 1/2 1/3", "1/2 1/3 1/4", "1/3 1/4 1/5"), "1/2160", true}, {sheet(2, "1/2 0", "0 2"), "1", true}, {sheet(2, "0 3/2", "5/7 0"), "-15/14", true},

		// triangles, and long numbers
		{sheet(3, "2 5 7", "0 3 11", "0 0 5"), "30", true}, {sheet(3, "2 0 0", "5 3 0", "7 11 5"), "30", true},
		{sheet(2, "18446744073709551616 1", "1 18446744073709551616"), "340282366920938463463374607431768211455", true},
		{sheet(2, "1 18446744073709551616", "18446744073709551616 1"), "-340282366920938463463374607431768211455", true},
		{sheet(2, "1/18446744073709551616 0", "0 -1/3"), "-1/55340232221128654848", true},
	} {
		m := c.g.mat()
		d, ok := elim.Det(m)
		if ok != c.ok || pack.Text(d) != c.want {
			t.Errorf("Det of %s is %s, %t; want %s", c.g.text(), pack.Text(d), ok, c.want)
		}
		unchanged(t, "Det", m, c.g)
		holdsSquare(t, c.g, fraction(c.want))
	}
}

func TestP122Inverse(t *testing.T) {
	for _, c := range []struct{ g, want grid }{
		{sheet(0), sheet(0)},
		{sheet(1, "1"), sheet(1, "1")}, {sheet(1, "-2"), sheet(1, "-1/2")}, {sheet(1, "2/3"), sheet(1, "3/2")},
		{sheet(2, "1 2", "3 4"), sheet(2, "-2 1", "3/2 -1/2")},
		{sheet(2, "0 1", "1 0"), sheet(2, "0 1", "1 0")}, {sheet(2, "0 2", "-3 0"), sheet(2, "0 -1/3", "1/2 0")},
		{sheet(2, "1 5", "0 1"), sheet(2, "1 -5", "0 1")}, {sheet(2, "1 0", "5 1"), sheet(2, "1 0", "-5 1")},
		{sheet(3, "0 1 0", "0 0 1", "1 0 0"), sheet(3, "0 0 1", "1 0 0", "0 1 0")},
		{sheet(3, "1 1/2 1/3", "1/2 1/3 1/4", "1/3 1/4 1/5"), sheet(3, "9 -36 30", "-36 192 -180", "30 -180 180")},
		{sheet(2, "18446744073709551616 0", "0 -1/36893488147419103235"), sheet(2, "1/18446744073709551616 0", "0 -36893488147419103235")},
		{one(63), one(63)}, {one(64), one(64)},
	} {
		m := c.g.mat()
		inverse, ok := elim.Inverse(m)
		if !ok || text(inverse) != c.want.text() {
			t.Errorf("Inverse of %s is %s, %t; want %s", c.g.text(), text(inverse), ok, c.want.text())
		}
		back, ok := elim.Inverse(inverse)
		if !ok || text(back) != c.g.text() {
			t.Errorf("Inverse of %s is %s, %t; want %s", c.want.text(), text(back), ok, c.g.text())
		}
		unchanged(t, "Inverse", m, c.g)
		apart(t, "Inverse of "+c.g.text(), m, inverse, back)
	}
}

func TestP122NoInverse(t *testing.T) {
	for _, g := range []grid{
		// not square, though one of the products may well be One
		sheet(1), sheet(64), sheet(0, ""), sheet(0, "", ""), sheet(2, "1 0"), sheet(1, "1", "0"),
		sheet(3, "1 0 0", "0 1 0"), sheet(2, "1 0", "0 1", "0 0"), {64, one(64).rows[:63]}, {0, make([]row, 64)},

		// not of full rank
		sheet(1, "0"), sheet(2, "0 0", "0 0"), sheet(2, "1 2", "2 4"), sheet(2, "1 2", "0 0"), sheet(2, "0 0", "1 2"),
		sheet(2, "0 1", "0 2"), sheet(2, "1 0", "2 0"), sheet(3, "1 2 3", "4 5 6", "7 8 9"), sheet(3, "1 2 3", "4 5 6", "5 7 9"),
		dense(64, 0), filled(64, 64, func(r, c int) *big.Rat { return new(big.Rat) }),
	} {
		m := g.mat()
		inverse, ok := elim.Inverse(m)
		if ok {
			t.Errorf("Inverse of %s: true", g.text())
		}
		isZero(t, "Inverse of "+g.text(), inverse)
		unchanged(t, "Inverse", m, g)
	}
}

func TestP122Squares(t *testing.T) {
	eachGrid(func(g grid) {
		if !g.square() {
			holdsSquare(t, g, new(big.Rat))
		} else if g.cols <= 6 {
			holdsSquare(t, g, g.det())
		}
	})
}

// TestP122Great is of as many rows and columns as there may be, all of whose
// determinant lies in what stands last.
func TestP122Great(t *testing.T) {
	holdsSquare(t, dense(64, 7, -3), big.NewRat(-21, 1))
	holdsSquare(t, dense(64, 5, 0), new(big.Rat))
	g := dense(63, -2)
	slices.Reverse(g.rows) // 31 pairs are exchanged
	g.rows[5] = minus(make0(63), big.NewRat(-1, 3), g.rows[5])
	holdsSquare(t, g, big.NewRat(2, 3))
	holdsSquare(t, grid{64, dense(64).rows[1:]}, new(big.Rat))
}

// TestP122Products holds the determinant of a product against those of both.
func TestP122Products(t *testing.T) {
	d := rolled(5)
	for range 200 {
		n := d.IntN(8)
		a, b := d.grid(n, n), d.grid(n, n)
		x, _ := elim.Det(a.mat())
		y, _ := elim.Det(b.mat())
		both, ok := elim.Det(product(a, b).mat())
		if !ok || !rat.Same(both, rat.Mul(x, y)) {
			t.Fatalf("Det of the product of %s and %s is %s; want %s", a.text(), b.text(), pack.Text(both), pack.Text(rat.Mul(x, y)))
		}
		turned, ok := elim.Det(a.mat().Turned())
		if !ok || !rat.Same(turned, x) {
			t.Fatalf("Det of %s is %s; turned %s", a.text(), pack.Text(x), pack.Text(turned))
		}
	}
}

func TestP123Table(t *testing.T) {
	for _, c := range []struct {
		g    grid
		b, x string
		want elim.Count
	}{
		{sheet(2, "1 1", "1 1"), "1 2", "", elim.None},
		{sheet(2, "1 1", "1 1"), "3 3", "3 0", elim.Many},
		{sheet(2, "1 2", "3 4"), "5 11", "1 2", elim.One},

		// one
		{sheet(1, "2"), "3", "3/2", elim.One}, {sheet(1, "-1/2"), "0", "0", elim.One},
		{sheet(2, "0 1", "1 0"), "5 6", "6 5", elim.One}, {sheet(2, "1 0", "0 1", "1 1"), "2 3 5", "2 3", elim.One},
		{sheet(1, "0", "2", "4"), "0 3 6", "3/2", elim.One}, {sheet(2, "1/2 1/3", "1/4 1/5"), "1 1", "-8 15", elim.One},
		{sheet(2, "0 0", "1 2", "3 4"), "0 5 11", "1 2", elim.One},

		// none
		{sheet(1, "0"), "1", "", elim.None}, {sheet(1, "1", "2"), "1 1", "", elim.None}, {sheet(2, "1 0", "0 1", "1 1"), "2 3 6", "", elim.None},
		{sheet(2, "0 0", "1 2"), "1 0", "", elim.None}, {sheet(2, "1 2", "0 0"), "0 -1", "", elim.None}, {sheet(3, "0 0 0"), "1/2", "", elim.None},
		{sheet(3, "1 2 3", "2 4 6"), "1 3", "", elim.None}, {sheet(3, "1 2 3", "4 5 6", "7 8 9"), "1 2 4", "", elim.None},

		// several
		{sheet(1, "0"), "0", "0", elim.Many}, {sheet(2, "1 2"), "3", "3 0", elim.Many}, {sheet(2, "0 2"), "3", "0 3/2", elim.Many},
		{sheet(3, "0 1 2", "0 3 4"), "5 6", "0 -4 9/2", elim.Many}, {sheet(3, "1 2 0", "0 0 1"), "7 8", "7 0 8", elim.Many},
		{sheet(3, "1 2 3", "2 4 6"), "2 4", "2 0 0", elim.Many}, {sheet(3, "1 2 3", "4 5 6", "7 8 9"), "1 2 3", "-1/3 2/3 0", elim.Many},
		{sheet(4, "0 0 3 1", "0 0 6 2"), "1 2", "0 0 1/3 0", elim.Many},

		// no rows: each x will do
		{sheet(0), "", "", elim.One}, {sheet(1), "", "0", elim.Many}, {sheet(3), "", "0 0 0", elim.Many},

		// no columns: there is only the x of no elements
		{sheet(0, ""), "0", "", elim.One}, {sheet(0, "", "", ""), "0 0 0", "", elim.One},
		{sheet(0, ""), "1", "", elim.None}, {sheet(0, "", "", ""), "0 0 -1", "", elim.None}, {sheet(0, "", "", ""), "1/2 0 0", "", elim.None},

		// b is 0
		{sheet(2, "1 2", "3 4"), "0 0", "0 0", elim.One}, {sheet(2, "1 2", "2 4"), "0 0", "0 0", elim.Many}, {sheet(2, "0 0"), "0", "0 0", elim.Many},
		{sheet(1, "1", "2"), "0 0", "0", elim.One},

		// long numbers
		{sheet(1, "18446744073709551616"), "1", "1/18446744073709551616", elim.One},
		{sheet(2, "1 0", "1/18446744073709551617 1"), "1 0", "1 -1/18446744073709551617", elim.One},
	} {
		m, b := c.g.mat(), line(read(c.b))
		x, count, ok := elim.Solve(m, b)
		if !ok || count != c.want || lineText(x) != rowText(read(c.x)) {
			t.Errorf("Solve of %s and %s is %s, %d, %t; want %s, %d", c.g.text(), c.b, lineText(x), count, ok, c.x, c.want)
		}
		holdsSolve(t, c.g, read(c.b))
	}
}

func TestP123Lengths(t *testing.T) {
	for _, g := range edges() {
		m := g.mat()
		for _, n := range []int{0, 1, 2, 3, 4, 5, 62, 63, 64, 65, 66, 130} {
			b := make(vec.Vec, n)
			x, count, ok := elim.Solve(m, b)
			if ok != (n == len(g.rows) && g.cols < 64) {
				t.Errorf("Solve of %s and %d elements: %t", g.text(), n, ok)
			}
			if !ok && (len(x) != 0 || count != 0) {
				t.Errorf("Solve of %s and %d elements: false, and yet %s, %d", g.text(), n, lineText(x), count)
			}
			if !slices.EqualFunc(b, make(vec.Vec, n), rat.Same) {
				t.Errorf("Solve of %s and %d elements has made it %s", g.text(), n, lineText(b))
			}
		}
		unchanged(t, "Solve", m, g)
	}
}

func TestP123LengthsTable(t *testing.T) {
	for _, c := range []struct {
		rows, cols, length int
		ok                 bool
	}{
		{2, 3, 2, true}, {2, 3, 1, false}, {2, 3, 3, false}, {2, 3, 0, false}, {2, 2, 2, true}, {2, 2, 3, false},
		{0, 3, 0, true}, {0, 3, 1, false}, {0, 3, 3, false}, {3, 0, 3, true}, {3, 0, 0, false}, {3, 0, 2, false}, {3, 0, 4, false},
		{0, 0, 0, true}, {0, 0, 1, false},

		// one column less than there may be, and as many
		{2, 63, 2, true}, {2, 64, 2, false}, {2, 62, 2, true}, {0, 63, 0, true}, {0, 64, 0, false}, {64, 63, 64, true}, {64, 64, 64, false},
		{1, 64, 1, false}, {1, 63, 1, true}, {1, 63, 63, false}, {64, 63, 63, false}, {64, 1, 64, true}, {64, 1, 65, false}, {64, 0, 64, true},
	} {
		m, _ := mat.New(c.rows, c.cols)
		x, count, ok := elim.Solve(m, make(vec.Vec, c.length))
		want := elim.Many
		if c.cols == 0 {
			want = elim.One
		}
		if !c.ok {
			want, c.cols = 0, 0
		}
		if ok != c.ok || count != want || len(x) != c.cols {
			t.Errorf("%d by %d with %d elements: %d of them, %d, %t", c.rows, c.cols, c.length, len(x), count, ok)
		}
	}
	m, _ := mat.New(0, 0)
	if x, count, ok := elim.Solve(m, nil); !ok || count != elim.One || len(x) != 0 {
		t.Error("no rows, no columns and nil:", x, count, ok)
	}
}

func TestP123Counts(t *testing.T) {
	if elim.None != 1 || elim.One != 2 || elim.Many != 3 || api.MaxDim != 64 {
		t.Error("None, One and Many are", elim.None, elim.One, elim.Many)
	}
}

func TestP123Solve(t *testing.T) {
	eachGrid(func(g grid) {
		if g.cols < 64 {
			for _, b := range rights(g) {
				holdsSolve(t, g, b)
			}
		}
	})
}

func TestP123Great(t *testing.T) {
	g := grid{63, nil}
	for _, vs := range dense(64, 7, -3).rows {
		g.rows = append(g.rows, vs[:63])
	}
	want := numbers(63)
	b := g.times(want)
	x, count, ok := elim.Solve(g.mat(), line(b))
	if !ok || count != elim.One || lineText(x) != rowText(want) {
		t.Error("64 by 63:", lineText(x), count, ok)
	}
	b[63].Add(b[63], big.NewRat(1, 18446744073709557))
	if x, count, ok := elim.Solve(g.mat(), line(b)); !ok || count != elim.None || len(x) != 0 {
		t.Error("64 by 63, and a little more:", lineText(x), count, ok)
	}
	holdsSolve(t, dense(63, 0, 5), numbers(63))
	short := grid{63, dense(63).rows[1:]}
	holdsSolve(t, short, short.times(want))
}

// TestP123ResultsAreNew changes what is handed in and what is returned.
func TestP123ResultsAreNew(t *testing.T) {
	g := sheet(3, "18446744073709551616 2 0", "1 0 1/3")
	m := g.mat()
	long := line(read("36893488147419103235/7 -5 77"))
	b := long[:2]
	x, _, _ := elim.Solve(m, b)
	y, _, _ := elim.Solve(m, b)
	apart(t, "two of Solve", m, b, x, y)
	was := lineText(y)
	if rowText(g.times(back(y))) != rowText(read("36893488147419103235/7 -5")) || lineText(long) != rowText(read("36893488147419103235/7 -5 77")) {
		t.Error("Solve is", was, "and b has become", lineText(long))
	}
	overwrite(x, long)
	if lineText(y) != was {
		t.Errorf("%s has become %s", was, lineText(y))
	}
	unchanged(t, "what was returned", m, g)
}

func TestP124Table(t *testing.T) {
	for _, c := range []struct{ g, want grid }{
		{sheet(3, "2 4 0", "1 2 1"), sheet(3, "-2 1 0")},

		// all columns lead, or there are none
		{sheet(0), sheet(0)}, {sheet(0, "", ""), sheet(0)}, {grid{0, make([]row, 64)}, sheet(0)},
		{sheet(1, "5"), sheet(1)}, {one(2), sheet(2)}, {one(64), sheet(64)}, {sheet(2, "0 0", "1 2", "3 4"), sheet(2)},
		{sheet(2, "0 1", "1 0"), sheet(2)}, {sheet(1, "0", "0", "2/3"), sheet(1)},

		// none leads
		{sheet(1), one(1)}, {sheet(3), one(3)}, {sheet(64), one(64)}, {sheet(1, "0"), one(1)}, {sheet(3, "0 0 0", "0 0 0"), one(3)},

		// one does not: the first, one between, the last
		{sheet(3, "0 1 0", "0 0 1"), sheet(3, "1 0 0")}, {sheet(3, "1 7 0", "0 0 1"), sheet(3, "-7 1 0")}, {sheet(3, "1 0 7", "0 1 -1/2"), sheet(3, "-7 1/2 1")},
		{sheet(2, "3 4"), sheet(2, "-4/3 1")}, {sheet(2, "0 4"), sheet(2, "1 0")}, {sheet(2, "1/2 1/3", "1/4 1/6"), sheet(2, "-2/3 1")},

		// several do not
		{sheet(3, "1 2 3"), sheet(3, "-2 1 0", "-3 0 1")}, {sheet(3, "0 2 3"), sheet(3, "1 0 0", "0 -3/2 1")}, {sheet(3, "0 0 5"), sheet(3, "1 0 0", "0 1 0")},
		{sheet(4, "1 2 0 3", "0 0 1 4", "0 0 0 0"), sheet(4, "-2 1 0 0", "-3 0 -4 1")},
		{sheet(5, "0 1 2 0 3", "0 0 0 1 -4"), sheet(5, "1 0 0 0 0", "0 -2 1 0 0", "0 -3 0 4 1")},
		{sheet(4, "1 1 1 1", "1 1 1 1"), sheet(4, "-1 1 0 0", "-1 0 1 0", "-1 0 0 1")},
		{sheet(4, "0 0 1 2", "1 3 0 0"), sheet(4, "-3 1 0 0", "0 0 -2 1")},
	} {
		m := c.g.mat()
		kernel := elim.Kernel(m)
		if !slices.EqualFunc(kernel, lines(c.want.rows), vec.Same) {
			var got grid
			for _, x := range kernel {
				got.rows = append(got.rows, back(x))
			}
			t.Errorf("Kernel of %s is %s; want %s", c.g.text(), got.text(), c.want.text())
		}
		unchanged(t, "Kernel", m, c.g)
	}
}

func TestP124Kernel(t *testing.T) {
	eachGrid(func(g grid) { holdsKernel(t, g) })
}

func TestP124Great(t *testing.T) {
	holdsKernel(t, dense(64, 3, 0))
	holdsKernel(t, dense(64, 3))
	holdsKernel(t, grid{64, dense(64).rows[:40]})
	holdsKernel(t, rolled(6).grid(30, 64))
}

// TestP124ResultsAreNew changes what is returned.
func TestP124ResultsAreNew(t *testing.T) {
	g := sheet(4, "18446744073709551617 2 3 4", "5 6 7 8/9")
	m := g.mat()
	kernel := elim.Kernel(m)
	other := elim.Kernel(m)
	apart(t, "two of Kernel", m, kernel, other)
	first := lineText(other[0])
	second := lineText(kernel[1])
	overwrite(kernel[0])
	if lineText(kernel[1]) != second || lineText(other[0]) != first {
		t.Errorf("%s and %s have become %s and %s", first, second, lineText(other[0]), lineText(kernel[1]))
	}
	overwrite(kernel...)
	clear(kernel)
	unchanged(t, "what was returned", m, g)
	holdsKernel(t, g)
}

// TestP123Kernel adds each of the kernel to a solution: it stays one.
func TestP123Kernel(t *testing.T) {
	d := rolled(7)
	for range 200 {
		g := d.grid(d.IntN(5), d.IntN(7))
		b := g.times(numbers(g.cols))
		m := g.mat()
		x, count, ok := elim.Solve(m, line(b))
		kernel := elim.Kernel(m)
		if !ok || count == elim.None || (count == elim.One) != (len(kernel) == 0) {
			t.Fatalf("Solve of %s: %d, %t, and the kernel has %d", g.text(), count, ok, len(kernel))
		}
		for _, k := range kernel {
			sum, _ := vec.AddTimes(x, rat.Int(3), k)
			if got, ok := m.Times(sum); !ok || lineText(got) != rowText(b) {
				t.Fatalf("%s times %s is %s; want %s", g.text(), lineText(sum), lineText(got), rowText(b))
			}
		}
	}
}
