package lu_test

import (
	"math/big"
	"math/rand/v2"
	"reflect"
	"slices"
	"strconv"
	"strings"
	"testing"

	"actuary/lu"
	"actuary/mat"
	"actuary/pack"
	"actuary/rat"
	"actuary/vec"
)

// row is some fractions, as math/big has them.
type row = []*big.Rat

// grid is a matrix of these.
type grid struct {
	cols int
	rows []row
}

// fraction is that of a text.
func fraction(s string) *big.Rat {
	v, ok := new(big.Rat).SetString(s)
	if !ok {
		panic(s)
	}
	return v
}

// read is the fractions of a text.
func read(s string) row {
	all := row{}
	for _, word := range strings.Fields(s) {
		all = append(all, fraction(word))
	}
	return all
}

// of is the Rat of a fraction.
func of(v *big.Rat) rat.Rat {
	a, err := pack.Read(v.RatString())
	if err != nil {
		panic(v)
	}
	return a
}

// line is the Vec of some.
func line(vs row) vec.Vec {
	var a vec.Vec
	for _, v := range vs {
		a = append(a, of(v))
	}
	return a
}

// lines are those of several.
func lines(rows []row) []vec.Vec {
	var as []vec.Vec
	for _, vs := range rows {
		as = append(as, line(vs))
	}
	return as
}

// back is a Vec as math/big has it.
func back(a vec.Vec) row {
	vs := row{}
	for _, x := range a {
		vs = append(vs, fraction(pack.Text(x)))
	}
	return vs
}

// backGrid is a Mat as math/big has it.
func backGrid(m mat.Mat) grid {
	return filled(m.Rows(), m.Cols(), func(r, c int) *big.Rat {
		return fraction(pack.Text(m.At(r, c)))
	})
}

// sheet is the grid of some rows, each a text.
func sheet(cols int, rows ...string) grid {
	g := grid{cols: cols}
	for _, s := range rows {
		g.rows = append(g.rows, read(s))
	}
	return g
}

// square is the grid of as many columns as there are texts.
func square(rows ...string) grid {
	return sheet(len(rows), rows...)
}

// filled is the grid of what at tells.
func filled(rows, cols int, at func(r, c int) *big.Rat) grid {
	g := grid{cols: cols, rows: make([]row, rows)}
	for r := range g.rows {
		g.rows[r] = row{}
		for c := range cols {
			g.rows[r] = append(g.rows[r], at(r, c))
		}
	}
	return g
}

// noughts are so many of 0.
func noughts(rows, cols int) grid {
	return filled(rows, cols, func(r, c int) *big.Rat { return new(big.Rat) })
}

// one has 1 from corner to corner.
func one(n int) grid {
	return filled(n, n, func(r, c int) *big.Rat { return whole(r == c) })
}

// whole is 1 or 0.
func whole(is bool) *big.Rat {
	if is {
		return big.NewRat(1, 1)
	}
	return new(big.Rat)
}

// mat is the Mat of g.
func (g grid) mat() mat.Mat {
	m, ok := mat.Of(g.cols, lines(g.rows)...)
	if !ok {
		panic(g.text())
	}
	return m
}

// copied is g with numbers of its own.
func (g grid) copied() grid {
	return filled(len(g.rows), g.cols, func(r, c int) *big.Rat { return new(big.Rat).Set(g.rows[r][c]) })
}

// col is a column of g.
func (g grid) col(c int) row {
	all := row{}
	for _, vs := range g.rows {
		all = append(all, vs[c])
	}
	return all
}

// turned has g's columns for rows.
func (g grid) turned() grid {
	return filled(g.cols, len(g.rows), func(r, c int) *big.Rat { return g.rows[c][r] })
}

// text is g in words.
func (g grid) text() string {
	s := strconv.Itoa(len(g.rows)) + " by " + strconv.Itoa(g.cols) + ":"
	for _, vs := range g.rows {
		s += rowText(vs)
	}
	return s
}

func rowText(vs row) string {
	s := "["
	for _, v := range vs {
		s += " " + v.RatString()
	}
	return s + " ]"
}

func text(m mat.Mat) string {
	return backGrid(m).text()
}

func lineText(a vec.Vec) string {
	return rowText(back(a))
}

// dot is the sum of the products.
func dot(a, b row) *big.Rat {
	sum := new(big.Rat)
	for i, v := range a {
		sum.Add(sum, new(big.Rat).Mul(v, b[i]))
	}
	return sum
}

// times is g times a column.
func (g grid) times(x row) row {
	all := row{}
	for _, vs := range g.rows {
		all = append(all, dot(vs, x))
	}
	return all
}

// product is a times b.
func product(a, b grid) grid {
	turned := b.turned()
	return filled(len(a.rows), b.cols, func(r, c int) *big.Rat { return dot(a.rows[r], turned.rows[c]) })
}

// minus takes r times b from a.
func minus(a row, r *big.Rat, b row) row {
	all := row{}
	for i, v := range a {
		all = append(all, new(big.Rat).Sub(v, new(big.Rat).Mul(r, b[i])))
	}
	return all
}

// numbers are so many that differ.
func numbers(n int) row {
	all := row{}
	for i := range n {
		all = append(all, big.NewRat(int64(3*i-40), int64(7+i%2)))
	}
	return all
}

// parts are what a matrix is taken apart into.
type parts struct {
	lower, upper grid
	perm         []int
	det          *big.Rat
}

// apart is g taken apart, step by step as the chapter says; false, if it can't be.
func (g grid) apart() (parts, bool) {
	if len(g.rows) != g.cols {
		return parts{}, false
	}
	p := parts{one(g.cols), g.copied(), nil, big.NewRat(1, 1)}
	for r := range g.cols {
		p.perm = append(p.perm, r)
	}
	for c := range g.cols {
		first := c
		for first < g.cols && p.upper.rows[first][c].Sign() == 0 {
			first++
		}
		if first == g.cols {
			return parts{}, false
		}
		if first > c {
			p.exchange(c, first)
		}
		p.det.Mul(p.det, p.upper.rows[c][c])
		for r := c + 1; r < g.cols; r++ {
			multiple := new(big.Rat).Quo(p.upper.rows[r][c], p.upper.rows[c][c])
			p.upper.rows[r] = minus(p.upper.rows[r], multiple, p.upper.rows[c])
			p.lower.rows[r][c] = multiple
		}
	}
	return p, true
}

// exchange has two rows change places, with the multiples that were taken from
// them: those left of column a.
func (p *parts) exchange(a, b int) {
	p.upper.rows[a], p.upper.rows[b] = p.upper.rows[b], p.upper.rows[a]
	p.perm[a], p.perm[b] = p.perm[b], p.perm[a]
	p.det.Neg(p.det)
	for c := range a {
		p.lower.rows[a][c], p.lower.rows[b][c] = p.lower.rows[b][c], p.lower.rows[a][c]
	}
}

// det is the determinant, by the first row: each element times that of what is
// left without its row and column, with signs that alternate.
func (g grid) det() *big.Rat {
	if g.cols == 0 {
		return big.NewRat(1, 1)
	}
	sum := new(big.Rat)
	for c, v := range g.rows[0] {
		if v.Sign() == 0 {
			continue
		}
		part := filled(g.cols-1, g.cols-1, func(i, j int) *big.Rat {
			if j >= c {
				j++
			}
			return g.rows[i+1][j]
		})
		add := new(big.Rat).Mul(v, part.det())
		if c%2 == 1 {
			add.Neg(add)
		}
		sum.Add(sum, add)
	}
	return sum
}

// memory is where the words and elements of what is handed in lie.
func memory(of ...any) map[uintptr]int {
	seen := map[uintptr]int{}
	for _, v := range of {
		look(reflect.ValueOf(v), seen)
	}
	return seen
}

func look(v reflect.Value, seen map[uintptr]int) {
	switch v.Kind() {
	case reflect.Slice:
		if v.Cap() > 0 {
			seen[v.Pointer()]++
		}
		for i := range v.Len() {
			look(v.Index(i), seen)
		}
	case reflect.Struct:
		for i := range v.NumField() {
			look(v.Field(i), seen)
		}
	case reflect.Pointer:
		if !v.IsNil() {
			seen[v.Pointer()]++
			look(v.Elem(), seen)
		}
	}
}

// apart fails the test, if two of what it is given, or two of one's parts, lie
// in the same memory, or one where f has something.
func apart(t *testing.T, name string, f *lu.LU, of ...any) {
	t.Helper()
	kept := memory(f)
	for at, times := range memory(of...) {
		if times > 1 || kept[at] > 0 {
			t.Fatalf("%s: %d of them at %x, where the factorization has %d", name, times, at, kept[at])
		}
	}
}

// overwrite puts something else into each element, and behind the last one.
func overwrite(as ...vec.Vec) {
	for _, a := range as {
		for i := range a {
			a[i] = rat.Int(99)
		}
		_ = append(a, rat.Int(100))
	}
}

// unchanged fails the test, if m is no longer g.
func unchanged(t *testing.T, what string, m mat.Mat, g grid) {
	t.Helper()
	if text(m) != g.text() {
		t.Fatalf("%s has made %s of %s", what, text(m), g.text())
	}
}

// factored is Factor of g, which there must be.
func factored(t *testing.T, g grid) *lu.LU {
	t.Helper()
	f, ok := lu.Factor(g.mat())
	if !ok || f == nil {
		t.Fatalf("Factor of %s: %t", g.text(), ok)
	}
	return f
}

// none fails the test, if there is a factorization of g.
func none(t *testing.T, g grid) {
	t.Helper()
	m := g.mat()
	f, ok := lu.Factor(m)
	if ok || f != nil {
		t.Fatalf("Factor of %s: %t, and nothing: %t", g.text(), ok, f == nil)
	}
	unchanged(t, "Factor", m, g)
}

// tells fails the test, if f does not tell these parts.
func tells(t *testing.T, g grid, f *lu.LU, p parts) {
	t.Helper()
	if f.Size() != g.cols {
		t.Fatalf("Size of %s is %d", g.text(), f.Size())
	}
	if perm := f.Perm(); !slices.Equal(perm, p.perm) {
		t.Fatalf("Perm of %s is %v; want %v", g.text(), perm, p.perm)
	}
	if lower := text(f.Lower()); lower != p.lower.text() {
		t.Fatalf("Lower of %s is %s; want %s", g.text(), lower, p.lower.text())
	}
	if upper := text(f.Upper()); upper != p.upper.text() {
		t.Fatalf("Upper of %s is %s; want %s", g.text(), upper, p.upper.text())
	}
	if det := pack.Text(f.Det()); det != p.det.RatString() {
		t.Fatalf("Det of %s is %s; want %s", g.text(), det, p.det.RatString())
	}
}

// shaped fails the test, if Lower and Upper are not triangular, or the rows of
// their product are not those of g that Perm tells.
func shaped(t *testing.T, g grid, f *lu.LU) {
	t.Helper()
	lower, upper, perm := backGrid(f.Lower()), backGrid(f.Upper()), f.Perm()
	for r := range g.cols {
		for c := range g.cols {
			if r <= c && lower.rows[r][c].Cmp(whole(r == c)) != 0 {
				t.Fatalf("Lower of %s is %s", g.text(), lower.text())
			}
			if r > c && upper.rows[r][c].Sign() != 0 || r == c && upper.rows[r][c].Sign() == 0 {
				t.Fatalf("Upper of %s is %s", g.text(), upper.text())
			}
		}
	}
	for k, vs := range product(lower, upper).rows {
		if rowText(vs) != rowText(g.rows[perm[k]]) {
			t.Fatalf("row %d of Lower times Upper of %s is %s, and Perm %v", k, g.text(), rowText(vs), perm)
		}
	}
}

// solves fails the test, if Solve and SolveT of g and v are no solutions.
func solves(t *testing.T, g grid, f *lu.LU, v row) {
	t.Helper()
	b := line(v)
	x, ok := f.Solve(b)
	if !ok || len(x) != g.cols || rowText(g.times(back(x))) != rowText(v) {
		t.Fatalf("Solve of %s and %s is %s, %t", g.text(), rowText(v), lineText(x), ok)
	}
	y, ok := f.SolveT(b)
	if !ok || len(y) != g.cols || rowText(g.turned().times(back(y))) != rowText(v) {
		t.Fatalf("SolveT of %s and %s is %s, %t", g.text(), rowText(v), lineText(y), ok)
	}
	if lineText(b) != rowText(v) {
		t.Fatalf("Solve or SolveT has made %s of %s", lineText(b), rowText(v))
	}
	apart(t, "Solve and SolveT of "+g.text(), f, b, x, y)
}

// holds holds all that is told of g against what is asked.
func holds(t *testing.T, g grid) {
	t.Helper()
	p, there := g.apart()
	if !there {
		none(t, g)
		return
	}
	m := g.mat()
	f, ok := lu.Factor(m)
	if !ok || f == nil {
		t.Fatalf("Factor of %s: %t", g.text(), ok)
	}
	tells(t, g, f, p)
	shaped(t, g, f)
	for _, v := range rights(g) {
		solves(t, g, f, v)
	}
	tells(t, g, f, p)
	unchanged(t, "Factor", m, g)
	apart(t, "what is told of "+g.text(), f, m, f.Lower(), f.Upper(), f.Perm(), f.Det())
}

// rights are some that fit g: 0, some that are 0 but for one place, and such as
// are 0 nowhere.
func rights(g grid) []row {
	n := g.cols
	all := []row{noughts(1, n).rows[0], numbers(n), g.times(numbers(n))}
	for _, k := range []int{0, 1, n / 2, n - 1} {
		if 0 <= k && k < n {
			all = append(all, one(n).rows[k])
		}
	}
	return all
}

// dice makes each number from the same start, in each run of the tests.
type dice struct{ *rand.Rand }

func rolled(seed uint64) dice {
	return dice{rand.New(rand.NewPCG(seed, 39))}
}

// grid is one of so many rows and columns: whole numbers and broken ones, many
// of them 0, and now and then a row that hangs on others.
func (d dice) grid(rows, cols int) grid {
	bound, broken := 1+d.Int64N(9), 1+d.Int64N(4)
	noughts := 1 + d.IntN(4)
	g := filled(rows, cols, func(r, c int) *big.Rat {
		if d.IntN(5) < noughts {
			return new(big.Rat)
		}
		return big.NewRat(d.Int64N(2*bound+1)-bound, 1+d.Int64N(broken))
	})
	if rows > 1 && d.IntN(6) == 0 {
		g.rows[d.IntN(rows)] = minus(g.rows[d.IntN(rows)], big.NewRat(d.Int64N(5)-2, 3), g.rows[d.IntN(rows)])
	}
	return g
}

// dense is the product of a lower and an upper matrix with 1 from corner to
// corner, but for the last places of the upper one: there stand these.
func dense(n int, last ...int64) grid {
	d := rolled(4)
	lower := filled(n, n, func(r, c int) *big.Rat {
		if r > c {
			return big.NewRat(d.Int64N(3)-1, 1)
		}
		return whole(r == c)
	})
	upper := filled(n, n, func(r, c int) *big.Rat {
		if r < c {
			return big.NewRat(d.Int64N(3)-1, 1)
		}
		return whole(r == c)
	})
	for i, v := range last {
		k := n - len(last) + i
		upper.rows[k][k].SetInt64(v)
	}
	return product(lower, upper)
}

// ordered is g with its rows in another order.
func (g grid) ordered(perm ...int) grid {
	other := grid{cols: g.cols}
	for _, r := range perm {
		other.rows = append(other.rows, g.rows[r])
	}
	return other
}

// reversed has g's last row first.
func (g grid) reversed() grid {
	g = g.copied()
	slices.Reverse(g.rows)
	return g
}

// every has something done with all square matrices of some numbers.
func every(n int, vs row, do func(g grid)) {
	at := make([]int, n*n)
	for {
		do(filled(n, n, func(r, c int) *big.Rat { return vs[at[r*n+c]] }))
		k := 0
		for k < len(at) && at[k] == len(vs)-1 {
			at[k] = 0
			k++
		}
		if k == len(at) {
			return
		}
		at[k]++
	}
}

// orders has something done with all orders of 0 to n - 1.
func orders(n int, do func(perm []int)) {
	var rest func(perm []int)
	rest = func(perm []int) {
		if len(perm) == n {
			do(slices.Clone(perm))
		}
		for k := range n {
			if !slices.Contains(perm, k) {
				rest(append(perm, k))
			}
		}
	}
	rest(nil)
}

func TestP131Sizes(t *testing.T) {
	for _, rows := range []int{0, 1, 2, 3, 5, 63, 64} {
		for _, cols := range []int{0, 1, 2, 3, 5, 63, 64} {
			g := filled(rows, cols, func(r, c int) *big.Rat { return whole(r == c) })
			if rows != cols {
				none(t, g)
				continue
			}
			if f := factored(t, g); f.Size() != rows {
				t.Errorf("Size of %s is %d", g.text(), f.Size())
			}
		}
	}
	if f, ok := lu.Factor(mat.Mat{}); !ok || f == nil || f.Size() != 0 {
		t.Error("Factor of a zero Mat:", ok)
	}
}

func TestP131None(t *testing.T) {
	for _, g := range []grid{
		// not as many rows as columns
		sheet(1), sheet(64), sheet(0, ""), sheet(0, "", "", ""), sheet(2, "1 0"), sheet(1, "1", "0"), sheet(1, "0", "1"),
		sheet(3, "1 0 0", "0 1 0"), sheet(2, "1 2", "3 4", "5 6"), sheet(3, "1 2 3", "4 5 6"), sheet(2, "1 0", "0 1", "0 0"),
		{64, one(64).rows[:63]}, {64, one(64).rows[:1]}, {0, make([]row, 64)}, one(64).ordered(5, 6, 7),

		// a row that is 0: the only one, the first, one between, the last, all
		square("0"), square("0 0", "1 2"), square("1 2", "0 0"), square("0 0 0", "1 2 3", "1 3 2"), square("1 2 3", "0 0 0", "1 3 2"), square("1 2 3", "1 3 2", "0 0 0"),
		square("0 0", "0 0"), noughts(5, 5), noughts(64, 64),

		// a column that is 0: the first, one between, the last
		square("0 1", "0 2"), square("1 0", "2 0"), square("0 1 2", "0 3 4", "0 5 7"), square("1 0 2", "3 0 4", "5 0 7"), square("1 2 0", "3 4 0", "5 7 0"),

		// rows that are equal, multiples, the sum of others
		square("1 2", "1 2"), square("1 2", "2 4"), square("1 2", "-1/3 -2/3"), square("1 2 3", "1 3 2", "1 2 3"), square("1 2 3", "4 5 6", "4 5 6"), square("1 2 3", "1 2 3", "4 5 7"),
		square("1 2 3", "1 3 2", "2 5 5"), square("2 5 5", "1 2 3", "1 3 2"),

		// columns that are equal, multiples, the sum of others
		square("1 1", "2 2"), square("1 3 1", "2 5 2", "4 4 4"), square("1 2 3", "2 5 7", "4 4 8"), square("1 -1/2 0", "2 -1 1", "4 -2 7"),

		// a determinant that is 0 only at the last column
		square("1 2 3", "4 5 6", "7 8 9"), square("0 2 3", "4 5 6", "4 7 9"), square("1/2 1/3", "1/4 1/6"), dense(7, 0), dense(63, 0), dense(64, 0), dense(64, -3, 0),
		dense(64, 0).reversed(), square("18446744073709551616 18446744073709551615", "36893488147419103232 36893488147419103230"),

		// and at a column between
		dense(8, 0, 1, 2), square("1 2 3 4", "2 4 1 1", "3 6 2 5", "-1 -2 9 9"),
	} {
		none(t, g)
	}
}

// TestP131Last has the last element alone decide.
func TestP131Last(t *testing.T) {
	g := dense(64, 7, 0)
	none(t, g)
	g.rows[63][63].Add(g.rows[63][63], fraction("1/18446744073709551617"))
	if det := pack.Text(factored(t, g).Det()); det != "7/18446744073709551617" {
		t.Error("Det with a little more at the last place:", det)
	}
	for _, last := range []string{"4", "4/3", "-1/7"} {
		h := square("1/2 2", "1/4 1")
		none(t, h)
		h.rows[1][1] = fraction(last)
		holds(t, h)
	}
}

func TestP132Table(t *testing.T) {
	for _, c := range []struct {
		g, lower, upper grid
		perm            []int
		det             string
	}{
		{square("0 2", "3 4"), square("1 0", "0 1"), square("3 4", "0 2"), []int{1, 0}, "-6"},

		// no rows, one
		{square(), square(), square(), nil, "1"},
		{square("5"), square("1"), square("5"), []int{0}, "5"},
		{square("-2/3"), square("1"), square("-2/3"), []int{0}, "-2/3"},

		// no exchange, though lower rows have greater numbers
		{square("1 2", "3 4"), square("1 0", "3 1"), square("1 2", "0 -2"), []int{0, 1}, "-2"},
		{square("1/2 1", "1000 -3"), square("1 0", "2000 1"), square("1/2 1", "0 -2003"), []int{0, 1}, "-2003/2"},
		{square("-1 2", "1 4"), square("1 0", "-1 1"), square("-1 2", "0 6"), []int{0, 1}, "-6"},
		{square("2 1 1", "4 3 3", "8 7 9"), square("1 0 0", "2 1 0", "4 3 1"), square("2 1 1", "0 1 1", "0 0 2"), []int{0, 1, 2}, "4"},

		// one exchange: with the next row, with a later one, where that is not the greatest
		{square("0 1", "1 0"), square("1 0", "0 1"), square("1 0", "0 1"), []int{1, 0}, "-1"},
		{square("0 1 2", "0 3 4", "5 6 7"), square("1 0 0", "0 1 0", "0 1/3 1"), square("5 6 7", "0 3 4", "0 0 2/3"), []int{2, 1, 0}, "-10"},
		{square("0 1 2", "1 0 0", "100 0 3"), square("1 0 0", "0 1 0", "100 0 1"), square("1 0 0", "0 1 2", "0 0 3"), []int{1, 0, 2}, "-3"},
		{square("0 0 2", "0 3 4", "5 6 7"), one(3), square("5 6 7", "0 3 4", "0 0 2"), []int{2, 1, 0}, "-30"},
		{square("0 0 1", "0 2 3", "-1 0 0"), square("1 0 0", "0 1 0", "0 0 1"), square("-1 0 0", "0 2 3", "0 0 1"), []int{2, 1, 0}, "2"},

		// it is an exchange: the rows between stay where they are
		{
			square("0 0 0 1", "0 2 0 0", "0 0 3 0", "4 0 0 0"), one(4),
			square("4 0 0 0", "0 2 0 0", "0 0 3 0", "0 0 0 1"), []int{3, 1, 2, 0}, "-24",
		},
		{
			square("0 1 0 0", "0 0 2 0", "3 0 0 0", "0 0 0 4"), one(4),
			square("3 0 0 0", "0 1 0 0", "0 0 2 0", "0 0 0 4"), []int{2, 0, 1, 3}, "24",
		},

		// an exchange behind the first column: what Lower has moves with its rows
		{square("1 2 3", "2 4 7", "3 7 9"), square("1 0 0", "3 1 0", "2 0 1"), square("1 2 3", "0 1 0", "0 0 1"), []int{0, 2, 1}, "-1"},
		{
			square("1 1 1 1", "2 2 3 5", "3 3 7 1", "5 4 0 2"),
			square("1 0 0 0", "5 1 0 0", "3 0 1 0", "2 0 1/4 1"),
			square("1 1 1 1", "0 -1 -5 -3", "0 0 4 -2", "0 0 0 7/2"), []int{0, 3, 2, 1}, "14",
		},
		{
			square("2 4 1 1", "1 2 1 3", "4 8 2 5", "6 13 0 0"),
			square("1 0 0 0", "3 1 0 0", "1/2 0 1 0", "2 0 0 1"),
			square("2 4 1 1", "0 1 -3 -3", "0 0 1/2 5/2", "0 0 0 3"), []int{0, 3, 1, 2}, "3",
		},

		// several exchanges
		{square("0 1 0", "0 0 1", "1 0 0"), one(3), one(3), []int{2, 0, 1}, "1"},
		{square("0 0 1", "1 0 0", "0 1 0"), one(3), one(3), []int{1, 2, 0}, "1"},
		{
			square("0 0 3 1", "2 2 0 1", "1 1 1 0", "0 5 0 1"),
			square("1 0 0 0", "0 1 0 0", "1/2 0 1 0", "0 0 3 1"),
			square("2 2 0 1", "0 5 0 1", "0 0 1 -1/2", "0 0 0 5/2"), []int{1, 3, 2, 0}, "25",
		},

		// triangular already
		{square("2 3 4", "0 5 6", "0 0 7"), one(3), square("2 3 4", "0 5 6", "0 0 7"), []int{0, 1, 2}, "70"},
		{square("2 0 0", "3 5 0", "4 6 7"), square("1 0 0", "3/2 1 0", "2 6/5 1"), square("2 0 0", "0 5 0", "0 0 7"), []int{0, 1, 2}, "70"},
		{square("1 0 0", "3 1 0", "4 6 1"), square("1 0 0", "3 1 0", "4 6 1"), one(3), []int{0, 1, 2}, "1"},
		{square("-1/2 0", "0 3"), one(2), square("-1/2 0", "0 3"), []int{0, 1}, "-3/2"},
		{one(2), one(2), one(2), []int{0, 1}, "1"},

		// fractions and long numbers
		{square("1/2 1/3", "1/4 1/5"), square("1 0", "1/2 1"), square("1/2 1/3", "0 1/30"), []int{0, 1}, "1/60"},
		{square("0 1/3", "-1/4 1/5"), one(2), square("-1/4 1/5", "0 1/3"), []int{1, 0}, "1/12"},
		{
			square("1 1/2 1/3", "1/2 1/3 1/4", "1/3 1/4 1/5"),
			square("1 0 0", "1/2 1 0", "1/3 1 1"),
			square("1 1/2 1/3", "0 1/12 1/12", "0 0 1/180"), []int{0, 1, 2}, "1/2160",
		},
		{
			square("18446744073709551616 2", "9223372036854775808 -1/18446744073709551615"),
			square("1 0", "1/2 1"), square("18446744073709551616 2", "0 -18446744073709551616/18446744073709551615"),
			[]int{0, 1}, "-340282366920938463463374607431768211456/18446744073709551615",
		},
	} {
		tells(t, c.g, factored(t, c.g), parts{c.lower, c.upper, c.perm, fraction(c.det)})
		holds(t, c.g)
	}
}

// TestP132Every is of all small matrices of a few numbers, and of many greater ones.
func TestP132Every(t *testing.T) {
	do := func(g grid) { holds(t, g) }
	every(1, read("0 1 -1 2 -3/4"), do)
	every(2, read("0 1 -1 2 -1/2"), do)
	every(3, read("0 1"), do)
	few, d := read("0 1 -1 2 -1/2"), rolled(1)
	for range 1000 {
		do(filled(3, 3, func(r, c int) *big.Rat { return few[d.IntN(len(few))] }))
	}
	for n := range 9 {
		for range 40 {
			do(d.grid(n, n))
		}
	}
	for rows := range 6 {
		for cols := range 6 {
			do(d.grid(rows, cols))
		}
	}
}

// TestP132Orders has the rows of triangular matrices in all orders.
func TestP132Orders(t *testing.T) {
	upper := square("2 3 1/2 -1", "0 5 7 0", "0 0 -3 11", "0 0 0 13")
	lower := square("2 0 0 0", "3 5 0 0", "1/2 7 -3 0", "-1 0 11 13")
	orders(4, func(perm []int) {
		holds(t, one(4).ordered(perm...))
		holds(t, upper.ordered(perm...))
		holds(t, lower.ordered(perm...))
		holds(t, product(lower, upper).ordered(perm...))
	})
	orders(5, func(perm []int) { holds(t, one(5).ordered(perm...)) })
}

// TestP132First has in the first column 0 alone but for some lower rows, of
// which the first one, not the one with the greatest number, comes up.
func TestP132First(t *testing.T) {
	d := rolled(2)
	for first := range 6 {
		for range 5 {
			g := filled(6, 6, func(r, c int) *big.Rat {
				switch {
				case c > 0:
					return big.NewRat(d.Int64N(19)-9, 1+d.Int64N(3))
				case r < first:
					return new(big.Rat)
				}
				return big.NewRat(int64(1+5*(r-first)), 3)
			})
			if _, there := g.apart(); !there {
				continue
			}
			if perm := factored(t, g).Perm(); perm[0] != first {
				t.Errorf("Perm of %s is %v", g.text(), perm)
			}
			holds(t, g)
		}
	}
}

// TestP132Great is of as many rows as there may be: dense, with many rows
// exchanged, triangular, sparse.
func TestP132Great(t *testing.T) {
	d := rolled(3)
	upper := filled(64, 64, func(r, c int) *big.Rat {
		if r > c {
			return new(big.Rat)
		}
		return big.NewRat(1+d.Int64N(3), 1)
	})
	sparse := filled(64, 64, func(r, c int) *big.Rat {
		if (r*7+3)%64 == c || d.IntN(40) == 0 {
			return big.NewRat(d.Int64N(7)+1, 2)
		}
		return new(big.Rat)
	})
	for _, g := range []grid{
		one(63), one(64), one(64).reversed(), one(64).ordered(append(slices.Clone(d.Perm(63)), 63)...),
		dense(63, 5), dense(64, 7, -3), dense(64, 2).reversed(), dense(64).ordered(d.Perm(64)...),
		upper, upper.turned(), upper.reversed(), sparse,
		filled(40, 40, func(r, c int) *big.Rat { return big.NewRat(d.Int64N(1<<20)-1<<19, 1) }),
		filled(12, 12, func(r, c int) *big.Rat { return big.NewRat(d.Int64()-1<<62, 1+d.Int64()) }),
	} {
		holds(t, g)
	}
	holds(t, dense(64, 4, 0))
}

func TestP133Table(t *testing.T) {
	for _, c := range []struct {
		g       grid
		v, x, y string
	}{
		{square("0 2", "3 4"), "2 7", "1 1", "13/6 2/3"},
		{square("0 2", "3 4"), "3 6", "0 3/2", "1 1"},
		{square(), "", "", ""},
		{square("2"), "3", "3/2", "3/2"},
		{square("-2/3"), "0", "0", "0"},
		{square("1 2", "3 4"), "5 11", "1 2", "13/2 -1/2"},
		{square("1 2", "3 4"), "0 0", "0 0", "0 0"},
		{square("0 1 0", "0 0 1", "1 0 0"), "7 8 9", "9 7 8", "8 9 7"},
		{square("0 0 1", "1 0 0", "0 1 0"), "7 8 9", "8 9 7", "9 7 8"},
		{square("1 2 3", "2 4 7", "3 7 9"), "1 0 0", "13 -3 -2", "13 -3 -2"},
		{square("1 2 3", "2 4 7", "3 7 9"), "1/2 0 -1/3", "43/6 -11/6 -1", "43/6 -11/6 -1"},
		{square("1 1", "0 1"), "3 2", "1 2", "3 -1"},
		{square("1 0", "1 1"), "3 2", "3 -1", "1 2"},
		{square("1/2 1/3", "1/4 1/5"), "1 1", "-8 15", "-3 10"},
		{square("2 0", "0 1/4"), "1/3 -1/5", "1/6 -4/5", "1/6 -4/5"},
		{square("18446744073709551616 0", "1 1"), "1 0", "1/18446744073709551616 -1/18446744073709551616", "1/18446744073709551616 0"},
	} {
		f, v := factored(t, c.g), line(read(c.v))
		x, ok := f.Solve(v)
		if !ok || lineText(x) != rowText(read(c.x)) {
			t.Errorf("Solve of %s and %s is %s, %t; want %s", c.g.text(), c.v, lineText(x), ok, c.x)
		}
		y, ok := f.SolveT(v)
		if !ok || lineText(y) != rowText(read(c.y)) {
			t.Errorf("SolveT of %s and %s is %s, %t; want %s", c.g.text(), c.v, lineText(y), ok, c.y)
		}
		solves(t, c.g, f, read(c.v))
	}
}

// TestP133Lengths hands in too little and too much, of 0 and of other numbers.
func TestP133Lengths(t *testing.T) {
	for _, n := range []int{0, 1, 2, 3, 63, 64} {
		f := factored(t, one(n).reversed())
		for _, length := range []int{0, 1, 2, 3, 4, 62, 63, 64, 65, 130} {
			for _, v := range []vec.Vec{make(vec.Vec, length), line(numbers(length))} {
				was := lineText(v)
				x, ok := f.Solve(v)
				y, okT := f.SolveT(v)
				if ok != (length == n) || okT != ok {
					t.Errorf("%d rows and %d elements: Solve %t, SolveT %t", n, length, ok, okT)
				}
				if !ok && (len(x) != 0 || len(y) != 0) {
					t.Errorf("%d rows and %d elements: false, and yet %s and %s", n, length, lineText(x), lineText(y))
				}
				if ok && (len(x) != n || len(y) != n) {
					t.Errorf("%d rows and %d elements: %d and %d of them", n, length, len(x), len(y))
				}
				if lineText(v) != was {
					t.Errorf("%s has become %s", was, lineText(v))
				}
			}
		}
	}
	f := factored(t, square())
	if x, ok := f.Solve(nil); !ok || len(x) != 0 {
		t.Error("no rows, and nil: Solve is", x, ok)
	}
	if y, ok := f.SolveT(nil); !ok || len(y) != 0 {
		t.Error("no rows, and nil: SolveT is", y, ok)
	}
	f = factored(t, one(2))
	if x, ok := f.Solve(nil); ok || x != nil {
		t.Error("two rows, and nil: Solve is", x, ok)
	}
	if y, ok := f.SolveT(nil); ok || y != nil {
		t.Error("two rows, and nil: SolveT is", y, ok)
	}
}

// TestP133Inverse has the units solved for: the inverse comes of it, by its
// columns and by its rows.
func TestP133Inverse(t *testing.T) {
	d := rolled(5)
	for range 100 {
		n := 1 + d.IntN(6)
		g := d.grid(n, n)
		f, ok := lu.Factor(g.mat())
		if !ok {
			continue
		}
		columns, rows := grid{cols: n}, grid{cols: n}
		for k := range n {
			unit, _ := vec.Unit(n, k)
			x, _ := f.Solve(unit)
			y, _ := f.SolveT(unit)
			columns.rows, rows.rows = append(columns.rows, back(x)), append(rows.rows, back(y))
		}
		if columns.turned().text() != rows.text() || product(g, rows).text() != one(n).text() || product(rows, g).text() != one(n).text() {
			t.Fatalf("the inverse of %s is %s by its columns turned, and %s by its rows", g.text(), columns.text(), rows.text())
		}
	}
}

// TestP133Det holds determinants against those by the first row.
func TestP133Det(t *testing.T) {
	d := rolled(6)
	for n := range 7 {
		for range 60 {
			g := d.grid(n, n)
			want := g.det()
			f, ok := lu.Factor(g.mat())
			if ok != (want.Sign() != 0) {
				t.Fatalf("Factor of %s: %t, and the determinant is %s", g.text(), ok, want.RatString())
			}
			if ok && pack.Text(f.Det()) != want.RatString() {
				t.Fatalf("Det of %s is %s; want %s", g.text(), pack.Text(f.Det()), want.RatString())
			}
		}
	}
}

func TestP133DetTable(t *testing.T) {
	for _, c := range []struct {
		g    grid
		want string
	}{
		{square(), "1"}, {square("1"), "1"}, {square("-1"), "-1"}, {square("-7/3"), "-7/3"},
		{one(64), "1"}, {one(64).reversed(), "1"}, {one(63).reversed(), "-1"}, {one(3).reversed(), "-1"}, {one(4).reversed(), "1"},
		{square("0 1", "1 0"), "-1"}, {square("0 1", "-1 0"), "1"}, {square("1 2", "3 4"), "-2"}, {square("3 4", "1 2"), "2"},
		{square("1/2 1/3", "1/4 1/5"), "1/60"}, {square("1/4 1/5", "1/2 1/3"), "-1/60"}, {square("-1/2 0", "0 1/3"), "-1/6"},
		{dense(64, 7, -3), "-21"}, {dense(64, 7, -3).reversed(), "-21"}, {dense(63, 5), "5"}, {dense(63, 5).reversed(), "-5"},
		{square("18446744073709551616 1", "1 18446744073709551616"), "340282366920938463463374607431768211455"},
	} {
		if det := pack.Text(factored(t, c.g).Det()); det != c.want {
			t.Errorf("Det of %s is %s; want %s", c.g.text(), det, c.want)
		}
	}
}

// long is a matrix with numbers of several words, and with rows to exchange.
func long() grid {
	return square("0 18446744073709551617 2", "36893488147419103235/7 0 1/3", "5 -1/18446744073709551616 0")
}

// TestP131Apart changes what Factor's argument was made of.
func TestP131Apart(t *testing.T) {
	g := long()
	p, _ := g.apart()
	as := lines(g.rows)
	m, _ := mat.Of(3, as...)
	f, ok := lu.Factor(m)
	if !ok {
		t.Fatal("Factor:", ok)
	}
	overwrite(as...)
	m, _ = m.With(0, 0, rat.Int(99))
	tells(t, g, f, p)
	solves(t, g, f, numbers(3))
	apart(t, "a factorization and what it was made of", f, as, m)
}

// TestP132ResultsAreNew changes what is returned, and throws it away.
func TestP132ResultsAreNew(t *testing.T) {
	g := long()
	p, _ := g.apart()
	f := factored(t, g)
	perm, other := f.Perm(), f.Perm()
	lower, upper := f.Lower(), f.Upper()
	apart(t, "two of each", f, perm, other, lower, f.Lower(), upper, f.Upper(), f.Det(), f.Det())
	for k := range perm {
		perm[k] = 99
	}
	_ = append(perm, 99)
	clear(perm)
	for r := range 3 {
		a, _ := lower.Row(r)
		b, _ := upper.Col(r)
		overwrite(a, b)
	}
	lower, _ = lower.With(2, 0, rat.Int(99))
	upper, _ = upper.WithoutRow(0)
	if !slices.Equal(other, p.perm) {
		t.Error("another Perm has become", other)
	}
	tells(t, g, f, p)
	solves(t, g, f, numbers(3))
	apart(t, "what came of them", f, perm, other, lower, upper)
}

func TestP133ResultsAreNew(t *testing.T) {
	g := long()
	p, _ := g.apart()
	f := factored(t, g)
	all := line(read("36893488147419103235/7 -5 1/3 77"))
	v := all[:3]
	x, _ := f.Solve(v)
	y, _ := f.SolveT(v)
	other, _ := f.Solve(v)
	otherT, _ := f.SolveT(v)
	apart(t, "two of each", f, all, x, y, other, otherT)
	was, wasT := lineText(other), lineText(otherT)
	if rowText(g.times(back(other))) != lineText(v) || rowText(g.turned().times(back(otherT))) != lineText(v) {
		t.Errorf("Solve is %s, SolveT %s", was, wasT)
	}
	if lineText(all) != rowText(read("36893488147419103235/7 -5 1/3 77")) {
		t.Error("what was handed in has become", lineText(all))
	}
	overwrite(x, y, all)
	if lineText(other) != was || lineText(otherT) != wasT {
		t.Errorf("%s and %s have become %s and %s", was, wasT, lineText(other), lineText(otherT))
	}
	tells(t, g, f, p)
	solves(t, g, f, read("36893488147419103235/7 -5 1/3"))
}

// TestP133Two has two factorizations at once, and one of the same matrix again.
func TestP133Two(t *testing.T) {
	g, h := long(), square("1 2 3", "2 4 7", "3 7 9")
	f, e, again := factored(t, g), factored(t, h), factored(t, g)
	apart(t, "three factorizations", f, e, again)
	p, _ := g.apart()
	q, _ := h.apart()
	for _, v := range rights(g) {
		solves(t, g, f, v)
		solves(t, h, e, v)
		solves(t, g, again, v)
	}
	tells(t, g, f, p)
	tells(t, h, e, q)
	tells(t, g, again, p)
}

func TestP133Examples(t *testing.T) {
	g := square("0 2", "3 4")
	f := factored(t, g)
	tells(t, g, f, parts{one(2), square("3 4", "0 2"), []int{1, 0}, big.NewRat(-6, 1)})
	if x, ok := f.Solve(vec.Of(2, 7)); !ok || !vec.Same(x, vec.Of(1, 1)) {
		t.Error("Solve is", lineText(x), ok)
	}
	if y, ok := f.SolveT(vec.Of(3, 6)); !ok || !vec.Same(y, vec.Of(1, 1)) {
		t.Error("SolveT is", lineText(y), ok)
	}
}
