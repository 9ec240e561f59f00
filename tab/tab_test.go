package tab_test

import (
	"errors"
	"math"
	"math/big"
	"math/rand/v2"
	"reflect"
	"slices"
	"strconv"
	"strings"
	"testing"

	"actuary/api"
	"actuary/mat"
	"actuary/pack"
	"actuary/prob"
	"actuary/rat"
	"actuary/tab"
	"actuary/vec"
)

// row is some fractions, as math/big has them.
type row = []*big.Rat

// system is a standard form of these: the rows of A, how many columns it has, and B.
type system struct {
	rows []row
	n    int
	b    row
}

// fraction is that of a text.
func fraction(s string) *big.Rat {
	v, ok := new(big.Rat).SetString(s)
	if !ok {
		panic(s)
	}
	return v
}

// read is the fractions of a text.
func read(s string) row {
	all := row{}
	for _, word := range strings.Fields(s) {
		all = append(all, fraction(word))
	}
	return all
}

// set is the system of a text, row by row: "1 2 -1 0 = 4; 3 1 0 1 = 9".
func set(s string) system {
	var a system
	for _, part := range strings.Split(s, ";") {
		coef, rhs, _ := strings.Cut(part, "=")
		a.rows, a.b = append(a.rows, read(coef)), append(a.b, fraction(strings.TrimSpace(rhs)))
	}
	a.n = len(a.rows[0])
	return a
}

// of is the Rat of a fraction.
func of(v *big.Rat) rat.Rat {
	a, err := pack.Read(v.RatString())
	if err != nil {
		panic(v)
	}
	return a
}

// line is the Vec of some.
func line(vs row) vec.Vec {
	var a vec.Vec
	for _, v := range vs {
		a = append(a, of(v))
	}
	return a
}

// posed is the Std of a system; what it costs, and what is whose, is no matter.
func posed(s system) prob.Std {
	var rows []vec.Vec
	for _, vs := range s.rows {
		rows = append(rows, line(vs))
	}
	a, ok := mat.Of(s.n, rows...)
	if !ok {
		panic(s.text())
	}
	return prob.Std{A: a, B: line(s.b), C: line(numbers(s.n)), Own: s.n, Left: make([]int, len(s.rows))}
}

// back is a Vec as math/big has it.
func back(a vec.Vec) row {
	vs := row{}
	for _, x := range a {
		vs = append(vs, fraction(pack.Text(x)))
	}
	return vs
}

// text is fractions in words; lineText is that of a Vec, ints of ints.
func text(vs row) string {
	s := "["
	for _, v := range vs {
		s += " " + v.RatString()
	}
	return s + " ]"
}

func lineText(a vec.Vec) string {
	return text(back(a))
}

func ints(all []int) string {
	s := "("
	for _, i := range all {
		s += " " + strconv.Itoa(i)
	}
	return s + " )"
}

func (s system) text() string {
	all := strconv.Itoa(len(s.rows)) + " by " + strconv.Itoa(s.n) + ":"
	for _, vs := range s.rows {
		all += " " + text(vs)
	}
	return all + " = " + text(s.b)
}

// stdText is a Std in words.
func stdText(s prob.Std) string {
	all := strconv.Itoa(s.A.Rows()) + " by " + strconv.Itoa(s.A.Cols()) + ":"
	for r := range s.A.Rows() {
		vs, _ := s.A.Row(r)
		all += " " + lineText(vs)
	}
	return all + " = " + lineText(s.B) + lineText(s.C) + strconv.Itoa(s.Own) + ints(s.Left)
}

// filled are n fractions that v tells.
func filled(n int, v func(i int) *big.Rat) row {
	all := row{}
	for i := range n {
		all = append(all, v(i))
	}
	return all
}

// noughts are n of 0; unit is these with 1 at a place; numbers are n that differ.
func noughts(n int) row {
	return filled(n, func(i int) *big.Rat { return new(big.Rat) })
}

func unit(n, k int) row {
	all := noughts(n)
	all[k].SetInt64(1)
	return all
}

func numbers(n int) row {
	return filled(n, func(i int) *big.Rat { return big.NewRat(int64(3*i-40), int64(7+i%2)) })
}

// dot is the sum of the products of both.
func dot(a, b row) *big.Rat {
	sum := new(big.Rat)
	for i, v := range a {
		sum.Add(sum, new(big.Rat).Mul(v, b[i]))
	}
	return sum
}

// column is one of A's.
func (s system) column(j int) row {
	return filled(len(s.rows), func(r int) *big.Rat { return s.rows[r][j] })
}

// times is what some columns of A make by x.
func (s system) times(cols []int, x row) row {
	return filled(len(s.rows), func(r int) *big.Rat { return dot(picked(s.rows[r], cols), x) })
}

// by is what y makes of some columns of A; all are the numbers of all of them.
func (s system) by(y row, cols []int) row {
	return filled(len(cols), func(k int) *big.Rat { return dot(s.column(cols[k]), y) })
}

func (s system) all() []int {
	all := []int{}
	for j := range s.n {
		all = append(all, j)
	}
	return all
}

// picked are some at some places.
func picked(vs row, at []int) row {
	return filled(len(at), func(k int) *big.Rat { return vs[at[k]] })
}

// independent tells whether these columns of A, as many as rows, are a basis.
func (s system) independent(cols []int) bool {
	left := []row{}
	for _, j := range cols {
		left = append(left, s.column(j))
	}
	for r := range s.rows {
		k := slices.IndexFunc(left, func(col row) bool { return col[r].Sign() != 0 })
		if k < 0 {
			return false
		}
		lead := left[k]
		left = slices.Delete(left, k, k+1)
		for i, col := range left {
			often := new(big.Rat).Quo(col[r], lead[r])
			left[i] = filled(len(col), func(i int) *big.Rat {
				return new(big.Rat).Sub(col[i], new(big.Rat).Mul(often, lead[i]))
			})
		}
	}
	return true
}

// fault is the error that New is to tell of some columns: its number and place.
func (s system) fault(cols []int) (api.Errno, string, int) {
	if len(cols) != len(s.rows) || len(s.b) != len(s.rows) {
		return api.ErrBasis, "", 0
	}
	for k, j := range cols {
		if j < 0 || j >= s.n || slices.Index(cols, j) < k {
			return api.ErrBasis, "column", k
		}
	}
	if !s.independent(cols) {
		return api.ErrSingular, "basis", 0
	}
	return api.OK, "", 0
}

// swapFault is the error that Swap is to tell where some columns are the basis.
func (s system) swapFault(cols []int, k, j int) (api.Errno, string, int) {
	if k < 0 || k >= len(cols) || j < 0 || j >= s.n || slices.Contains(cols, j) {
		return api.ErrBasis, "column", j
	}
	if !s.independent(with(cols, k, j)) {
		return api.ErrSingular, "basis", k
	}
	return api.OK, "", 0
}

// leaves is the place that Leave is to tell, where some columns have these values.
func leaves(cols []int, values, col row) int {
	var places []int
	for k := range min(len(values), len(col)) {
		if col[k].Sign() > 0 {
			places = append(places, k)
		}
	}
	if len(places) == 0 {
		return -1
	}
	return slices.MinFunc(places, func(a, b int) int {
		// a by b is below c by d, where b and d are above 0, if a times d is below c times b.
		order := new(big.Rat).Mul(values[a], col[b]).Cmp(new(big.Rat).Mul(values[b], col[a]))
		if order == 0 {
			return cols[a] - cols[b]
		}
		return order
	})
}

// with is the columns with another one at a place.
func with(cols []int, k, j int) []int {
	cols = slices.Clone(cols)
	cols[k] = j
	return cols
}

// told fails the test, if an error is not of this number at this place; "": at none.
func told(t *testing.T, what string, err error, number api.Errno, where string, at int) {
	t.Helper()
	w, k, is := api.Place(err)
	if (err == nil) != (number == api.OK) || api.Number(err) != number || is != (where != "") || w != where || k != at {
		t.Fatalf("%s: %v, of number %d at %q %d, %t; want %d at %q %d", what, err, api.Number(err), w, k, is, number, where, at)
	}
	if number != api.OK && !errors.Is(err, number) {
		t.Fatalf("%s: %v is not %v", what, err, number)
	}
}

// made is New of a system and columns that must be a basis of it.
func made(t *testing.T, s system, cols ...int) *tab.Tab {
	t.Helper()
	p, was := posed(s), slices.Clone(cols)
	words := stdText(p)
	x, err := tab.New(p, cols...)
	if err != nil || x == nil {
		t.Fatalf("New of %s and %s: %v", s.text(), ints(cols), err)
	}
	if stdText(p) != words || !slices.Equal(cols, was) {
		t.Fatalf("New has made %s and %s of %s and %s", stdText(p), ints(cols), words, ints(was))
	}
	return x
}

// tried is New of a system and any columns, nil where these are no basis; the
// test fails, if it does not tell what is due.
func tried(t *testing.T, s system, cols ...int) *tab.Tab {
	t.Helper()
	number, where, at := s.fault(cols)
	if number == api.OK {
		return made(t, s, cols...)
	}
	refused(t, s, cols, number, where, at)
	return nil
}

// refused fails the test, if New does not tell this error.
func refused(t *testing.T, s system, cols []int, number api.Errno, where string, at int) {
	t.Helper()
	p, was := posed(s), slices.Clone(cols)
	words := stdText(p)
	x, err := tab.New(p, cols...)
	told(t, "New of "+s.text()+" and "+ints(cols), err, number, where, at)
	if x != nil {
		t.Fatalf("New of %s and %s: an error, and yet a Tab", s.text(), ints(cols))
	}
	if stdText(p) != words || !slices.Equal(cols, was) {
		t.Fatalf("New has made %s and %s of %s and %s", stdText(p), ints(cols), words, ints(was))
	}
}

// outside are some places that n do not have.
func outside(n int) []int {
	return []int{-1, n, n + 1, -n - 1, n + 64, math.MinInt, math.MaxInt}
}

// costs are some for n columns: 0, 1 each, such as differ, such as are 0 but for one.
func costs(n int) []row {
	all := []row{noughts(n), filled(n, func(i int) *big.Rat { return big.NewRat(1, 1) }), numbers(n)}
	for _, j := range []int{0, n / 2, n - 1} {
		if 0 <= j && j < n {
			all = append(all, unit(n, j))
		}
	}
	return all
}

// valued fails the test, if Values, Point and Feasible are not what these columns make due.
func valued(t *testing.T, what string, x *tab.Tab, s system, cols []int) {
	t.Helper()
	values := back(x.Values())
	if len(values) != len(cols) || text(s.times(cols, values)) != text(s.b) {
		t.Fatalf("%s: Values of %s by %s are %s", what, s.text(), ints(cols), text(values))
	}
	point := noughts(s.n)
	feasible := true
	for k, v := range values {
		point[cols[k]] = v
		feasible = feasible && v.Sign() >= 0
	}
	if lineText(x.Point()) != text(point) || x.Feasible() != feasible {
		t.Fatalf("%s: Point of %s by %s is %s, Feasible %t; Values are %s", what, s.text(), ints(cols), lineText(x.Point()), x.Feasible(), text(values))
	}
}

// columned fails the test, if Column is not what these columns make due.
func columned(t *testing.T, what string, x *tab.Tab, s system, cols []int) {
	t.Helper()
	for j := range s.n {
		a, ok := x.Column(j)
		if !ok || len(a) != len(cols) || text(s.times(cols, back(a))) != text(s.column(j)) {
			t.Fatalf("%s: Column %d of %s by %s is %s, %t", what, j, s.text(), ints(cols), lineText(a), ok)
		}
		if k := slices.Index(cols, j); k >= 0 && lineText(a) != text(unit(len(cols), k)) {
			t.Fatalf("%s: Column %d of %s by %s is %s", what, j, s.text(), ints(cols), lineText(a))
		}
	}
	for _, j := range outside(s.n) {
		if a, ok := x.Column(j); ok || len(a) > 0 {
			t.Fatalf("%s: Column %d of %s by %s is %s, %t", what, j, s.text(), ints(cols), lineText(a), ok)
		}
	}
}

// lined fails the test, if Weights and Line are not what these columns make due.
func lined(t *testing.T, what string, x *tab.Tab, s system, cols []int) {
	t.Helper()
	for r := range cols {
		y, ok := x.Weights(r)
		if !ok || len(y) != len(cols) || text(s.by(back(y), cols)) != text(unit(len(cols), r)) {
			t.Fatalf("%s: Weights %d of %s by %s are %s, %t", what, r, s.text(), ints(cols), lineText(y), ok)
		}
		a, ok := x.Line(r)
		if want := s.by(back(y), s.all()); !ok || lineText(a) != text(want) {
			t.Fatalf("%s: Line %d of %s by %s is %s, %t; want %s", what, r, s.text(), ints(cols), lineText(a), ok, text(want))
		}
	}
	for _, r := range outside(len(cols)) {
		y, okY := x.Weights(r)
		a, ok := x.Line(r)
		if okY || ok || len(y) > 0 || len(a) > 0 {
			t.Fatalf("%s: Weights %d of %s by %s are %s, %t, Line %s, %t", what, r, s.text(), ints(cols), lineText(y), okY, lineText(a), ok)
		}
	}
}

// priced fails the test, if Duals and Prices of c are not what these columns make due.
func priced(t *testing.T, what string, x *tab.Tab, s system, cols []int, c row) {
	t.Helper()
	a := line(c)
	y, okY := x.Duals(a)
	p, okP := x.Prices(a)
	if lineText(a) != text(c) {
		t.Fatalf("%s: Duals or Prices have made %s of %s", what, lineText(a), text(c))
	}
	if len(c) != s.n {
		if okY || okP || len(y) > 0 || len(p) > 0 {
			t.Fatalf("%s: Duals of %s by %s for %s are %s, %t, Prices %s, %t", what, s.text(), ints(cols), text(c), lineText(y), okY, lineText(p), okP)
		}
		return
	}
	if !okY || len(y) != len(cols) || text(s.by(back(y), cols)) != text(picked(c, cols)) {
		t.Fatalf("%s: Duals of %s by %s for %s are %s, %t", what, s.text(), ints(cols), text(c), lineText(y), okY)
	}
	worth := s.by(back(y), s.all())
	want := filled(s.n, func(j int) *big.Rat { return new(big.Rat).Sub(c[j], worth[j]) })
	if !okP || lineText(p) != text(want) {
		t.Fatalf("%s: Prices of %s by %s for %s are %s, %t; want %s", what, s.text(), ints(cols), text(c), lineText(p), okP, text(want))
	}
}

// left fails the test, if Leave by col is not what these columns make due.
func left(t *testing.T, what string, x *tab.Tab, s system, cols []int, col row) {
	t.Helper()
	a := line(col)
	want := leaves(cols, back(x.Values()), col)
	if k := x.Leave(a); k != want || lineText(a) != text(col) {
		t.Fatalf("%s: Leave of %s by %s, with values %s, for %s is %d (%s); want %d", what, s.text(), ints(cols), lineText(x.Values()), text(col), k, lineText(a), want)
	}
}

// holds fails the test, if x does not tell all that a Tab of these columns is to tell.
func holds(t *testing.T, what string, x *tab.Tab, s system, cols []int) {
	t.Helper()
	if !slices.Equal(x.Basis(), cols) {
		t.Fatalf("%s: Basis of %s is %s; want %s", what, s.text(), ints(x.Basis()), ints(cols))
	}
	valued(t, what, x, s, cols)
	columned(t, what, x, s, cols)
	lined(t, what, x, s, cols)
	for _, c := range costs(s.n) {
		priced(t, what, x, s, cols, c)
	}
	priced(t, what, x, s, cols, numbers(s.n+1))
	for j := range s.n {
		col, _ := x.Column(j)
		left(t, what, x, s, cols, back(col))
	}
	if !slices.Equal(x.Basis(), cols) {
		t.Fatalf("%s: Basis of %s is %s at the end; was %s", what, s.text(), ints(x.Basis()), ints(cols))
	}
}

// shown is all that a Tab tells of n columns, in words.
func shown(x *tab.Tab, n int) string {
	words := ints(x.Basis()) + lineText(x.Values()) + lineText(x.Point()) + strconv.FormatBool(x.Feasible())
	for j := range n {
		a, _ := x.Column(j)
		words += " " + lineText(a) + strconv.Itoa(x.Leave(a))
	}
	for r := range x.Basis() {
		y, _ := x.Weights(r)
		a, _ := x.Line(r)
		words += " " + lineText(y) + lineText(a)
	}
	for _, c := range costs(n) {
		y, _ := x.Duals(line(c))
		p, _ := x.Prices(line(c))
		words += " " + lineText(y) + lineText(p)
	}
	return words
}

// alike fails the test, if x does not tell all as a Tab does that was just made of these columns.
func alike(t *testing.T, what string, x *tab.Tab, s system, cols []int) {
	t.Helper()
	if got, want := shown(x, s.n), shown(made(t, s, cols...), s.n); got != want {
		t.Fatalf("%s: of %s and %s there is %s; one just made has %s", what, s.text(), ints(cols), got, want)
	}
}

// swapped has a column swapped in, whatever comes of it, and is the basis behind
// that; the test fails, if it is told otherwise than is due.
func swapped(t *testing.T, x *tab.Tab, s system, cols []int, k, j int) []int {
	t.Helper()
	number, where, at := s.swapFault(cols, k, j)
	told(t, "Swap of "+strconv.Itoa(k)+" for "+strconv.Itoa(j)+" in "+ints(cols)+" of "+s.text(), x.Swap(k, j), number, where, at)
	if number == api.OK {
		return with(cols, k, j)
	}
	return cols
}

// memory is where the words and elements of something lie.
func memory(of any) map[uintptr]bool {
	seen := map[uintptr]bool{}
	look(reflect.ValueOf(of), seen)
	return seen
}

func look(v reflect.Value, seen map[uintptr]bool) {
	switch v.Kind() {
	case reflect.Slice:
		if v.Cap() > 0 {
			seen[v.Pointer()] = true
		}
		for i := range v.Len() {
			look(v.Index(i), seen)
		}
	case reflect.Struct:
		for i := range v.NumField() {
			look(v.Field(i), seen)
		}
	case reflect.Pointer:
		if !v.IsNil() {
			seen[v.Pointer()] = true
			look(v.Elem(), seen)
		}
	}
}

// apart fails the test, if two of what it is given lie in the same memory.
func apart(t *testing.T, what string, of ...any) {
	t.Helper()
	whose := map[uintptr]int{}
	for i, v := range of {
		for at := range memory(v) {
			if j, taken := whose[at]; taken {
				t.Fatalf("%s: %d and %d share memory", what, j, i)
			}
			whose[at] = i
		}
	}
}

// overwrite puts something else into each element, and behind the last one.
func overwrite(as ...vec.Vec) {
	for _, a := range as {
		for i := range a {
			a[i] = rat.Int(99)
		}
		_ = append(a, rat.Int(100))
	}
}

func overwriteInts(all []int) {
	for i := range all {
		all[i] = 99
	}
	_ = append(all, 100)
}

// dice makes each number from the same start, in each run of the tests.
type dice struct{ *rand.Rand }

func rolled(seed uint64) dice {
	return dice{rand.New(rand.NewPCG(seed, 42))}
}

// row is so many fractions, many of them 0.
func (d dice) row(n int) row {
	broken := 1 + d.Int64N(3)
	return filled(n, func(i int) *big.Rat {
		if d.IntN(3) == 0 {
			return new(big.Rat)
		}
		return big.NewRat(d.Int64N(15)-7, 1+d.Int64N(broken))
	})
}

// system is one of so many rows and columns, in which some hang on others.
func (d dice) system(m, n int) system {
	s := system{n: n, b: d.row(m)}
	for range m {
		s.rows = append(s.rows, d.row(n))
	}
	if n > 1 && d.IntN(2) == 0 {
		i, j, often := d.IntN(n), d.IntN(n), big.NewRat(d.Int64N(5)-2, 1+d.Int64N(2))
		for _, vs := range s.rows {
			vs[j] = new(big.Rat).Mul(often, vs[i])
		}
	}
	return s
}

// cols are m of n columns, in any order.
func (d dice) cols(m, n int) []int {
	return d.Perm(n)[:m]
}

// based is a system of so many rows and columns with a basis.
func (d dice) based(m, n int) (system, []int) {
	for {
		s := d.system(m, n)
		for range 10 {
			if cols := d.cols(m, n); s.independent(cols) {
				return s, cols
			}
		}
	}
}

// walk has so many swaps done, and is the basis behind them; seen looks at each.
func (d dice) walk(t *testing.T, x *tab.Tab, s system, cols []int, steps int, seen func(k, was int, cols []int)) []int {
	t.Helper()
	if len(cols) == 0 || len(cols) == s.n {
		return cols
	}
	// Where all but few swaps are refused, the walk ends early.
	for tries := 0; tries < 1000 && steps > 0; tries++ {
		k, j := d.IntN(len(cols)), d.IntN(s.n)
		was := cols[k]
		cols = swapped(t, x, s, cols, k, j)
		if cols[k] != was {
			steps--
			seen(k, was, cols)
		}
	}
	return cols
}

// unseen looks at nothing.
func unseen(k, was int, cols []int) {}

// tuples has something done with all lists of m from low up to below high.
func tuples(m, low, high int, do func(all []int)) {
	all := make([]int, m)
	for i := range all {
		all[i] = low
	}
	for {
		do(slices.Clone(all))
		k := 0
		for k < m && all[k] == high-1 {
			all[k] = low
			k++
		}
		if k == m {
			return
		}
		all[k]++
	}
}

// example is that of the chapter; long has numbers of several words; band has as
// many rows and columns as there may be.
func example() system {
	return set("1 2 -1 0 = 4; 3 1 0 1 = 9")
}

func long() system {
	return set("0 18446744073709551617 2 1/3 36893488147419103235 = 36893488147419103235/7; " +
		"5 -1/18446744073709551616 0 7 -1/18446744073709551617 = 1/18446744073709551617; " +
		"340282366920938463463374607431768211457 1/3 -2/5 0 18446744073709551629/3 = -18446744073709551616")
}

func band(m, n int) system {
	s := system{n: n, b: numbers(m)}
	for r := range m {
		s.rows = append(s.rows, filled(n, func(c int) *big.Rat {
			switch c - r {
			case 0:
				return big.NewRat(2, 1)
			case 1:
				return big.NewRat(1, 3)
			case 9:
				return big.NewRat(-1, 1)
			}
			return new(big.Rat)
		}))
	}
	return s
}

func TestP171Table(t *testing.T) {
	for _, c := range []struct {
		s    system
		cols []int
	}{
		{example(), []int{2, 3}}, {example(), []int{3, 2}}, {example(), []int{0, 1}}, {example(), []int{1, 0}}, {example(), []int{3, 0}}, {example(), []int{2, 1}},
		{set("5 = 10"), []int{0}}, {set("0 0 -2/3 = 0"), []int{2}}, {set("18446744073709551616 1 = 1"), []int{0}},
		{set("1/2 1/3 1/5 = 1; 1/7 1/11 0 = 1/13"), []int{2, 0}}, {set("1/2 1/3 1/5 = 1; 1/7 1/11 0 = 1/13"), []int{0, 1}},
		{set("0 1 0 = 1; 0 0 1 = -2; 1 0 0 = 0"), []int{2, 0, 1}}, {set("0 1 0 = 1; 0 0 1 = -2; 1 0 0 = 0"), []int{1, 2, 0}},
		{long(), []int{4, 0, 2}}, {long(), []int{1, 2, 3}}, {long(), []int{3, 4, 1}},
	} {
		holds(t, "New", made(t, c.s, c.cols...), c.s, c.cols)
	}
}

// TestP171Order has the columns of a basis in every order.
func TestP171Order(t *testing.T) {
	s := set("1 0 2 5 1/2 = 3; 0 1 3 0 1 = -2; 4 4 0 0 -1 = 1/3; 1 2 3 4 5 = 0")
	orders := 0
	tuples(4, 0, s.n, func(cols []int) {
		if x := tried(t, s, cols...); x != nil {
			orders++
			holds(t, "New", x, s, cols)
		}
	})
	if orders != 120 {
		t.Error("there are", orders, "orders")
	}
}

// TestP171NoRows has standard forms without rows, of which no columns are the basis.
func TestP171NoRows(t *testing.T) {
	for _, n := range []int{0, 1, 2, 24, 64} {
		s := system{n: n}
		for _, cols := range [][]int{nil, {}} {
			x := made(t, s, cols...)
			holds(t, "New of no rows", x, s, nil)
			for _, col := range []vec.Vec{nil, {}, vec.Of(1), vec.Of(1, 2, 3)} {
				if k := x.Leave(col); k != -1 {
					t.Errorf("Leave of no rows for %s is %d", lineText(col), k)
				}
			}
			for _, k := range []int{0, -1, 1, math.MinInt, math.MaxInt} {
				for _, j := range []int{0, n - 1, n, -1} {
					swapped(t, x, s, nil, k, j)
				}
			}
			holds(t, "New of no rows", x.Copy(), s, nil)
		}
		if y, ok := made(t, s).Duals(line(numbers(n))); !ok || len(y) != 0 {
			t.Error("Duals of no rows are", lineText(y), ok)
		}
		if p, ok := made(t, s).Prices(line(numbers(n))); !ok || lineText(p) != text(numbers(n)) {
			t.Error("Prices of no rows are", lineText(p), ok)
		}
		refused(t, s, []int{0}, api.ErrBasis, "", 0)
		refused(t, system{n: n, b: read("1")}, nil, api.ErrBasis, "", 0)
		refused(t, system{n: n, b: read("0")}, []int{0}, api.ErrBasis, "", 0)
	}
	x, err := tab.New(prob.Std{})
	told(t, "New of nothing", err, api.OK, "", 0)
	holds(t, "New of nothing", x, system{}, nil)
}

// TestP171NoColumns has rows, but no columns: there is no basis.
func TestP171NoColumns(t *testing.T) {
	for _, m := range []int{1, 2, 20, 64} {
		s := system{n: 0, b: noughts(m)}
		for range m {
			s.rows = append(s.rows, row{})
		}
		cols := slices.Repeat([]int{0}, m)
		refused(t, s, nil, api.ErrBasis, "", 0)
		refused(t, s, cols, api.ErrBasis, "column", 0)
		refused(t, s, append(cols, 0), api.ErrBasis, "", 0)
		refused(t, s, with(cols, 0, -1), api.ErrBasis, "column", 0)
		s.b = nil
		refused(t, s, cols, api.ErrBasis, "", 0)
		refused(t, s, nil, api.ErrBasis, "", 0)
	}
	holds(t, "New of nothing", made(t, system{}), system{}, nil)
}

// TestP171Counts has too few and too many columns, and elements of B, alone and
// both at once, with columns that may be and such as may not.
func TestP171Counts(t *testing.T) {
	for _, m := range []int{1, 2, 3, 7} {
		s := band(m, 2*m+2)
		for _, number := range []int{0, 1, m - 1, m, m + 1, 2*m + 1, 64, 65} {
			for _, length := range []int{0, 1, m - 1, m, m + 1, 2*m + 1, 64, 65} {
				if number != m || length != m {
					s.b = numbers(length)
					counted(t, s, number)
				}
			}
		}
		s.b = nil
		refused(t, s, nil, api.ErrBasis, "", 0)
		refused(t, s, s.all()[:m], api.ErrBasis, "", 0)
	}
	s := band(64, 64)
	counted(t, s, 63)
	counted(t, s, 65)
	s.b = numbers(65)
	counted(t, s, 64)
}

// counted fails the test, if New of so many columns, whichever they are, does
// not tell that they, or the elements of B, are too few or too many.
func counted(t *testing.T, s system, number int) {
	t.Helper()
	rising := []int{}
	for k := range number {
		rising = append(rising, k)
	}
	refused(t, s, rising, api.ErrBasis, "", 0)
	refused(t, s, make([]int, number), api.ErrBasis, "", 0)
	if number > 0 {
		refused(t, s, with(rising, number-1, -1), api.ErrBasis, "", 0)
		refused(t, s, with(rising, 0, s.n), api.ErrBasis, "", 0)
	}
}

// TestP171Columns has columns that there are not, or that occur twice, at each
// place, alone and with others behind.
func TestP171Columns(t *testing.T) {
	for _, m := range []int{1, 2, 3, 4, 5} {
		s := band(m, m+2)
		for k := range m {
			missing(t, s, k)
			twice(t, s, k)
		}
	}
	for _, m := range []int{20, 62} {
		s := band(m, m+2)
		for _, k := range []int{0, 1, m / 2, m - 1} {
			refused(t, s, with(s.all()[2:], k, -1), api.ErrBasis, "column", k)
			refused(t, s, with(s.all()[2:], k, s.n), api.ErrBasis, "column", k)
			if k > 0 {
				refused(t, s, with(s.all()[2:], k, k+1), api.ErrBasis, "column", k)
				refused(t, s, with(s.all()[2:], k, 2), api.ErrBasis, "column", k)
			}
		}
		refused(t, s, slices.Repeat([]int{1}, m+1), api.ErrBasis, "", 0)
		refused(t, s, slices.Repeat([]int{1}, m), api.ErrBasis, "column", 1)
	}
}

// missing has columns at a place that there are not; that one is told which
// comes first, whatever comes behind.
func missing(t *testing.T, s system, k int) {
	t.Helper()
	basis := s.all()[2:]
	for i, wrong := range outside(s.n) {
		cols := with(basis, k, wrong)
		refused(t, s, cols, api.ErrBasis, "column", k)
		for j := k + 1; j < len(cols); j++ {
			refused(t, s, with(cols, j, outside(s.n)[(i+j)%7]), api.ErrBasis, "column", k)
			refused(t, s, with(cols, j, basis[0]), api.ErrBasis, "column", k)
			refused(t, s, with(cols, j, wrong), api.ErrBasis, "column", k)
		}
	}
}

// twice has columns at a place that occur before, likewise.
func twice(t *testing.T, s system, k int) {
	t.Helper()
	basis := s.all()[2:]
	for _, earlier := range basis[:k] {
		cols := with(basis, k, earlier)
		refused(t, s, cols, api.ErrBasis, "column", k)
		for j := k + 1; j < len(cols); j++ {
			refused(t, s, with(cols, j, -1), api.ErrBasis, "column", k)
			refused(t, s, with(cols, j, s.n), api.ErrBasis, "column", k)
			refused(t, s, with(cols, j, earlier), api.ErrBasis, "column", k)
		}
	}
}

// TestP171Several has several errors at once.
func TestP171Several(t *testing.T) {
	// a column twice that is wrong besides is told where it comes first
	refused(t, example(), []int{4, 4}, api.ErrBasis, "column", 0)
	refused(t, example(), []int{-1, -1}, api.ErrBasis, "column", 0)
	refused(t, example(), []int{0, 4}, api.ErrBasis, "column", 1)
	refused(t, example(), []int{3, 3}, api.ErrBasis, "column", 1)
	// where the determinant would be 0, too, that is not told
	two := set("1 2 0 = 0; 2 4 0 = 0; 0 0 0 = 0")
	refused(t, two, []int{0, 1, 3}, api.ErrBasis, "column", 2)
	refused(t, two, []int{0, 1, 1}, api.ErrBasis, "column", 2)
	refused(t, two, []int{2, -1, 1}, api.ErrBasis, "column", 1)
	refused(t, two, []int{2, 1}, api.ErrBasis, "", 0)
}

func TestP171Singular(t *testing.T) {
	for _, c := range []struct {
		s    system
		cols []int
	}{
		{set("0 = 1"), []int{0}}, {set("1 0 2 = 0"), []int{1}},
		{set("1 2 = 0; 2 4 = 0"), []int{0, 1}}, {set("1 2 = 0; 2 4 = 0"), []int{1, 0}}, {set("1 2 0 = 1; 2 4 0 = 2"), []int{2, 0}},
		{set("1 2 3 = 1; 4 5 6 = 1; 7 8 9 = 1"), []int{0, 1, 2}}, {set("1 2 3 = 1; 4 5 6 = 1; 7 8 9 = 1"), []int{2, 0, 1}},
		{set("1/2 1/3 5 = 0; -1 -2/3 7 = 0"), []int{1, 0}},
		{set("1 0 1 9 = 0; 0 1 1 9 = 0; 0 0 0 9 = 1"), []int{0, 1, 2}},
		{set("0 0 0 = 0; 1 2 3 = 0; 4 5 7 = 0"), []int{0, 1, 2}},
		{set("18446744073709551616 340282366920938463463374607431768211456 = 1; 1 18446744073709551616 = 1"), []int{0, 1}},
	} {
		refused(t, c.s, c.cols, api.ErrSingular, "basis", 0)
	}
	// a column that hangs on all but one of many, in the place of each
	great, often := band(63, 64), numbers(63)
	often[40].SetInt64(0)
	for _, vs := range great.rows {
		vs[63] = dot(vs[:63], often)
	}
	refused(t, great, with(great.all()[:63], 40, 63), api.ErrSingular, "basis", 0)
	made(t, great, with(great.all()[:63], 39, 63)...)
}

// TestP171Every is of all lists of columns, and some that are none, of all small
// matrices of few numbers.
func TestP171Every(t *testing.T) {
	few := read("0 1 -1 1/2")
	for _, size := range []struct{ m, n, values int }{{1, 1, 4}, {1, 2, 4}, {2, 1, 3}, {2, 2, 4}, {2, 3, 2}, {3, 3, 2}} {
		tuples(size.m*size.n, 0, size.values, func(at []int) {
			s := system{n: size.n, b: few[:size.m]}
			for r := range size.m {
				s.rows = append(s.rows, picked(few, at[r*size.n:(r+1)*size.n]))
			}
			if size.m == 3 && at[0]+at[4]+at[8] != 2 {
				return
			}
			tuples(size.m, -1, size.n+1, func(cols []int) {
				if x := tried(t, s, cols...); x != nil {
					holds(t, "New", x, s, cols)
				}
			})
		})
	}
}

func TestP171Random(t *testing.T) {
	d := rolled(1)
	bases := 0
	for range 400 {
		m := d.IntN(6)
		n := m + d.IntN(5)
		s := d.system(m, n)
		cols := d.cols(m, n)
		if x := tried(t, s, cols...); x != nil {
			bases++
			holds(t, "New", x, s, cols)
		}
	}
	if bases < 100 || bases > 390 {
		t.Error("there are", bases, "bases")
	}
}

// TestP171Most is of as many rows and columns as there may be.
func TestP171Most(t *testing.T) {
	for _, m := range []int{1, 20, 64} {
		s := band(m, 64)
		cols := s.all()[64-m:]
		slices.Reverse(cols)
		if x := tried(t, s, cols...); x != nil {
			valued(t, "New", x, s, cols)
			columned(t, "New", x, s, cols)
			lined(t, "New", x, s, cols)
			priced(t, "New", x, s, cols, numbers(64))
		} else if m == 64 {
			t.Error("all of 64 are no basis")
		}
	}
}

// TestP171Others has other costs, another number of own columns and no slacks:
// nothing hangs on these.
func TestP171Others(t *testing.T) {
	want := shown(made(t, example(), 1, 3), 4)
	for _, c := range []vec.Vec{nil, vec.Of(1), vec.Of(1, 2, 3, 4, 5)} {
		for _, own := range []int{0, -1, 2, 64, math.MinInt, math.MaxInt} {
			for _, slacks := range [][]int{nil, {2, 3}, {-1, -1}, {99, math.MinInt, 7}} {
				s := posed(example())
				s.C, s.Own, s.Left = c, own, slacks
				x, err := tab.New(s, 1, 3)
				told(t, "New", err, api.OK, "", 0)
				if got := shown(x, 4); got != want {
					t.Errorf("with %s, %d, %s there is %s; want %s", lineText(c), own, ints(slacks), got, want)
				}
			}
		}
	}
}

// TestP171Apart changes what New was given.
func TestP171Apart(t *testing.T) {
	for _, c := range []struct {
		s    system
		cols []int
	}{{example(), []int{3, 0}}, {long(), []int{4, 0, 2}}} {
		p, cols := posed(c.s), slices.Clone(c.cols)
		x, err := tab.New(p, cols...)
		told(t, "New", err, api.OK, "", 0)
		apart(t, "a Tab and what it is made of", x, p.A, p.B, p.C, p.Left, cols)
		overwrite(p.B, p.C)
		overwriteInts(p.Left)
		overwriteInts(cols)
		p.A = mat.Mat{}
		holds(t, "New, with what it was given overwritten", x, c.s, c.cols)
		basis := x.Basis()
		other := x.Basis()
		apart(t, "a Tab and its basis", x, basis, other)
		overwriteInts(basis)
		if !slices.Equal(other, c.cols) {
			t.Error("Basis has become", ints(other))
		}
		holds(t, "New, with its basis overwritten", x, c.s, c.cols)
	}
}

func TestP172Table(t *testing.T) {
	for _, c := range []struct {
		s             system
		cols          []int
		values, point string
		feasible      bool
	}{
		{example(), []int{2, 3}, "-4 9", "0 0 -4 9", false},
		{example(), []int{3, 2}, "9 -4", "0 0 -4 9", false},
		{example(), []int{1, 3}, "2 7", "0 2 0 7", true},
		{example(), []int{1, 0}, "3/5 14/5", "14/5 3/5 0 0", true},
		{example(), []int{0, 3}, "4 -3", "4 0 0 -3", false},
		{set("5 = 10"), []int{0}, "2", "2", true},
		{set("-5 = 10"), []int{0}, "-2", "-2", false},
		{set("0 -5 7 = 0"), []int{1}, "0", "0 0 0", true},
		{set("0 1 0 1 = 1; 0 0 1 1 = 0; 1 0 0 1 = 2"), []int{2, 0, 1}, "0 2 1", "2 1 0 0", true},
		{set("0 1 0 1 = 1; 0 0 1 1 = 0; 1 0 0 1 = -2"), []int{1, 2, 0}, "1 0 -2", "-2 1 0 0", false},
		{set("0 1 0 1 = 1; 0 0 1 1 = 0; 1 0 0 1 = 2"), []int{2, 0, 3}, "-1 1 1", "1 0 -1 1", false},
	} {
		x := made(t, c.s, c.cols...)
		if got := lineText(x.Values()); got != text(read(c.values)) {
			t.Errorf("Values of %s by %s are %s; want %s", c.s.text(), ints(c.cols), got, c.values)
		}
		if got := lineText(x.Point()); got != text(read(c.point)) {
			t.Errorf("Point of %s by %s is %s; want %s", c.s.text(), ints(c.cols), got, c.point)
		}
		if x.Feasible() != c.feasible {
			t.Errorf("Feasible of %s by %s is %t", c.s.text(), ints(c.cols), x.Feasible())
		}
	}
}

func TestP172Lines(t *testing.T) {
	for _, c := range []struct {
		s                     system
		cols                  []int
		r                     int
		weights, line, column string
	}{
		{example(), []int{2, 3}, 0, "-1 0", "-1 -2 1 0", "-1 3"},
		{example(), []int{2, 3}, 1, "0 1", "3 1 0 1", "-2 1"},
		{example(), []int{1, 3}, 0, "1/2 0", "1/2 1 -1/2 0", "1/2 5/2"},
		{example(), []int{1, 3}, 1, "-1/2 1", "5/2 0 1/2 1", "1 0"},
		{example(), []int{3, 1}, 0, "-1/2 1", "5/2 0 1/2 1", "5/2 1/2"},
		{example(), []int{3, 1}, 1, "1/2 0", "1/2 1 -1/2 0", "0 1"},
		{set("-2/3 0 5 = 1"), []int{0}, 0, "-3/2", "1 0 -15/2", "1"},
	} {
		x := made(t, c.s, c.cols...)
		y, okY := x.Weights(c.r)
		a, okA := x.Line(c.r)
		col, okCol := x.Column(c.r)
		if !okY || !okA || !okCol || lineText(y) != text(read(c.weights)) || lineText(a) != text(read(c.line)) || lineText(col) != text(read(c.column)) {
			t.Errorf("%d of %s by %s: Weights %s, %t, Line %s, %t, Column %s, %t", c.r, c.s.text(), ints(c.cols), lineText(y), okY, lineText(a), okA, lineText(col), okCol)
		}
	}
}

// TestP172Ends asks for the first and last places and columns, and one before and behind.
func TestP172Ends(t *testing.T) {
	for _, size := range []struct{ m, n int }{{0, 0}, {0, 1}, {0, 5}, {1, 1}, {1, 4}, {2, 3}, {3, 3}, {5, 9}, {20, 44}} {
		s := band(size.m, size.n)
		x := made(t, s, s.all()[:size.m]...)
		for i := -2; i < size.n+3; i++ {
			a, ok := x.Column(i)
			if want := 0 <= i && i < size.n; ok != want || want && len(a) != size.m || !want && len(a) > 0 {
				t.Errorf("Column %d of %d is %s, %t", i, size.n, lineText(a), ok)
			}
			y, ok := x.Weights(i)
			if want := 0 <= i && i < size.m; ok != want || want && len(y) != size.m || !want && len(y) > 0 {
				t.Errorf("Weights %d of %d are %s, %t", i, size.m, lineText(y), ok)
			}
			a, ok = x.Line(i)
			if want := 0 <= i && i < size.m; ok != want || want && len(a) != size.n || !want && len(a) > 0 {
				t.Errorf("Line %d of %d is %s, %t", i, size.m, lineText(a), ok)
			}
		}
		holds(t, "Ends", x, s, s.all()[:size.m])
	}
}

// TestP172ResultsAreNew changes what is returned, and asks again.
func TestP172ResultsAreNew(t *testing.T) {
	d := rolled(2)
	for _, swaps := range []int{0, 1, 8, 9, 20} {
		s := long()
		x := made(t, s, 4, 0, 2)
		cols := d.walk(t, x, s, []int{4, 0, 2}, swaps, unseen)
		was := shown(x, s.n)
		c := line(numbers(s.n))
		var all []any
		var results []vec.Vec
		for range 2 {
			y, _ := x.Duals(c)
			p, _ := x.Prices(c)
			results = append(results, x.Values(), x.Point(), y, p)
			for j := range s.n {
				a, _ := x.Column(j)
				results = append(results, a)
			}
			for r := range cols {
				y, _ := x.Weights(r)
				a, _ := x.Line(r)
				results = append(results, y, a)
			}
		}
		for _, a := range results {
			all = append(all, a)
		}
		apart(t, "a Tab and what it returns", append(all, x, c)...)
		x.Leave(results[0])
		overwrite(results...)
		overwrite(c)
		if now := shown(x, s.n); now != was {
			t.Errorf("%s has become %s", was, now)
		}
		holds(t, "results overwritten", x, s, cols)
	}
}

func TestP173Table(t *testing.T) {
	for _, c := range []struct {
		s                   system
		cols                []int
		cost, duals, prices string
	}{
		{example(), []int{2, 3}, "1 1 0 0", "0 0", "1 1 0 0"},
		{example(), []int{1, 3}, "1 1 0 0", "1/2 0", "1/2 0 1/2 0"},
		{example(), []int{3, 1}, "1 1 0 0", "1/2 0", "1/2 0 1/2 0"},
		{example(), []int{0, 1}, "1 3 0 0", "8/5 -1/5", "0 0 8/5 1/5"},
		{example(), []int{1, 3}, "0 0 0 0", "0 0", "0 0 0 0"},
		{example(), []int{2, 3}, "0 0 5 -7", "-5 -7", "26 17 0 0"},
		{set("-2/3 0 5 = 1"), []int{2}, "1 2 3", "3/5", "7/5 2 0"},
	} {
		x := made(t, c.s, c.cols...)
		y, ok := x.Duals(line(read(c.cost)))
		if !ok || lineText(y) != text(read(c.duals)) {
			t.Errorf("Duals of %s by %s for %s are %s, %t; want %s", c.s.text(), ints(c.cols), c.cost, lineText(y), ok, c.duals)
		}
		p, ok := x.Prices(line(read(c.cost)))
		if !ok || lineText(p) != text(read(c.prices)) {
			t.Errorf("Prices of %s by %s for %s are %s, %t; want %s", c.s.text(), ints(c.cols), c.cost, lineText(p), ok, c.prices)
		}
	}
}

// TestP173Lengths hands in too few and too many costs, of 0 and of other numbers.
func TestP173Lengths(t *testing.T) {
	d := rolled(3)
	for _, size := range []struct{ m, n int }{{0, 0}, {0, 3}, {1, 1}, {1, 4}, {2, 2}, {2, 4}, {3, 7}, {20, 44}, {2, 64}, {64, 64}} {
		s := band(size.m, size.n)
		x := made(t, s, s.all()[:size.m]...)
		cols := s.all()[:size.m]
		if size.n < 9 {
			cols = d.walk(t, x, s, cols, 3, unseen)
		}
		for _, length := range []int{0, 1, 2, 3, 4, 5, size.m, size.m + 1, size.n - 1, size.n, size.n + 1, 2*size.n + 1, 64, 65, 130} {
			if length >= 0 {
				priced(t, "Lengths", x, s, cols, noughts(length))
				priced(t, "Lengths", x, s, cols, numbers(length))
			}
		}
		y, okY := x.Duals(nil)
		p, okP := x.Prices(nil)
		if want := size.n == 0; okY != want || okP != want || len(y) > 0 || len(p) > 0 {
			t.Errorf("Duals of %d columns for nothing are %s, %t, Prices %s, %t", size.n, lineText(y), okY, lineText(p), okP)
		}
	}
}

// TestP173Longer hands in more than there are columns, where the first would do.
func TestP173Longer(t *testing.T) {
	all := vec.Of(1, 1, 0, 0, 77)
	x := made(t, example(), 1, 3)
	y, ok := x.Duals(all[:4])
	p, okP := x.Prices(all[:4])
	if !ok || !okP || !vec.Same(all, vec.Of(1, 1, 0, 0, 77)) {
		t.Error(ok, okP, lineText(all))
	}
	apart(t, "costs and what comes of them", x, all, y, p)
	overwrite(all)
	holds(t, "costs overwritten", x, example(), []int{1, 3})
}

func TestP174Table(t *testing.T) {
	same := set("1 0 0 2 = 4; 0 1 0 3 = 6; 0 0 1 5 = 10")
	noughts := set("1 0 0 2 = 0; 0 1 0 3 = 6; 0 0 1 5 = 0")
	below := set("1 0 0 2 = -4; 0 1 0 3 = 6; 0 0 1 5 = -10")
	parts := set("3 0 0 2 = 1; 0 7 0 3 = 1; 0 0 2/5 5 = 1/6")
	for _, c := range []struct {
		s    system
		cols []int
		col  string
		want int
	}{
		{example(), []int{2, 3}, "1 3", 0}, {example(), []int{2, 3}, "0 -1", -1}, {example(), []int{2, 3}, "-1 3", 1}, {example(), []int{3, 2}, "3 1", 1},
		// too short, too long, nothing
		{same, []int{0, 1, 2}, "", -1}, {same, []int{0, 1, 2}, "1", 0}, {same, []int{0, 1, 2}, "0 1", 1}, {same, []int{0, 1, 2}, "0 0", -1},
		{same, []int{0, 1, 2}, "0 1 0 100 100", 1}, {same, []int{0, 1, 2}, "0 0 0 1", -1}, {same, []int{0, 1, 2}, "-1 0 -1/2 7 8", -1},
		// nothing that is positive
		{same, []int{0, 1, 2}, "0 0 0", -1}, {same, []int{0, 1, 2}, "-1 -2 -3", -1}, {below, []int{0, 1, 2}, "-1 -1 -1", -1}, {below, []int{0, 1, 2}, "-1 0 -1", -1},
		// several alike, of which the least column goes, and not the first place
		{same, []int{0, 1, 2}, "2 3 5", 0}, {same, []int{2, 1, 0}, "5 3 2", 2}, {same, []int{1, 2, 0}, "3 5 2", 2}, {same, []int{1, 0, 2}, "3 2 5", 1}, {same, []int{2, 0, 1}, "5 2 3", 1},
		{same, []int{1, 2, 0}, "3 5 1", 0}, {same, []int{2, 1, 0}, "5 3 1", 1}, {same, []int{2, 1, 0}, "5 2 1", 0}, {same, []int{1, 2, 0}, "3 5", 0},
		{same, []int{0, 1, 2}, "1/2 3/4 5/4", 0}, {same, []int{0, 1, 2}, "1/2 4/5 5/4", 1}, {same, []int{2, 1, 0}, "5/4 3/4 1/2", 2},
		// values that are 0
		{noughts, []int{0, 1, 2}, "1 1 1", 0}, {noughts, []int{2, 1, 0}, "1 1 1", 2}, {noughts, []int{0, 1, 2}, "0 1 1", 2}, {noughts, []int{0, 1, 2}, "0 1 0", 1}, {noughts, []int{0, 1, 2}, "-1 1 100", 2}, {noughts, []int{2, 0, 1}, "1/100 100 1", 1},
		// quotients below 0
		{below, []int{0, 1, 2}, "1 1 1", 2}, {below, []int{0, 1, 2}, "1 1 5", 0}, {below, []int{0, 1, 2}, "2 1 5", 0}, {below, []int{2, 1, 0}, "5 1 2", 2}, {below, []int{0, 1, 2}, "0 1 0", 1}, {below, []int{0, 1, 2}, "0 1 1/9", 2}, {below, []int{0, 1, 2}, "4 1 9", 2}, {below, []int{0, 1, 2}, "1/3 1 -1", 0},
		// fractions that are not whole
		{parts, []int{0, 1, 2}, "1/2 1/4 5/6", 2}, {parts, []int{0, 1, 2}, "1/2 1/4 1/2", 1}, {parts, []int{0, 1, 2}, "1/2 1/5 1/2", 0}, {parts, []int{0, 1, 2}, "1/3 1/7 5/12", 0}, {parts, []int{1, 2, 0}, "1/7 5/12 1/3", 2}, {parts, []int{2, 1, 0}, "5/12 1/7 2/7", 1},
	} {
		x := made(t, c.s, c.cols...)
		left(t, "Table", x, c.s, c.cols, read(c.col))
		if k := x.Leave(line(read(c.col))); k != c.want {
			t.Errorf("Leave of %s by %s, with values %s, for %s is %d; want %d", c.s.text(), ints(c.cols), lineText(x.Values()), c.col, k, c.want)
		}
	}
	if k := made(t, example(), 2, 3).Leave(nil); k != -1 {
		t.Error("Leave for nothing is", k)
	}
}

// TestP174Every is of all columns of few numbers by all bases of some systems,
// shorter and longer ones, too.
func TestP174Every(t *testing.T) {
	few := read("0 1 -1 2 1/2")
	for _, s := range []system{
		example(),
		set("1 0 2 = 0; 0 1 1 = 0"), set("1 0 2 = 2; 0 1 1 = 1"), set("1 0 -1 = -2; 0 1 3 = -1"), set("2 1 3 = 4; 1 -1 -1 = 0"),
		set("0 0 2 1 = 2; 0 1 0 1 = 1; 1 0 0 1 = 2"), set("0 0 1 -1 = -1; 0 1 0 1 = 0; 1/2 0 0 -1 = 1"),
	} {
		m := len(s.rows)
		tuples(m, 0, s.n, func(cols []int) {
			x := tried(t, s, cols...)
			if x == nil {
				return
			}
			for length := range m + 2 {
				tuples(length, 0, min(5, 8-length), func(at []int) {
					left(t, "Every", x, s, cols, picked(few, at))
				})
			}
		})
	}
}

func TestP174Random(t *testing.T) {
	d := rolled(4)
	for range 150 {
		m := 1 + d.IntN(7)
		s, cols := d.based(m, m+d.IntN(4))
		if d.IntN(2) == 0 {
			// Values that are alike, or 0: quotients are alike, too.
			x := filled(m, func(i int) *big.Rat { return big.NewRat(d.Int64N(3)-1, 1) })
			s.b = s.times(cols, x)
		}
		x := made(t, s, cols...)
		for range 20 {
			left(t, "Random", x, s, cols, d.row(max(0, m+d.IntN(4)-1)))
			left(t, "Random", x, s, cols, filled(m, func(i int) *big.Rat { return big.NewRat(d.Int64N(3), 1) }))
		}
	}
}

// TestP174Kept asks Leave again and again: nothing changes by it, and what was
// handed in may be changed.
func TestP174Kept(t *testing.T) {
	x := made(t, long(), 4, 0, 2)
	was := shown(x, 5)
	for _, s := range []string{"1 1 1", "-1 18446744073709551617 1/3", "1", "", "0 0 0 1"} {
		a := line(read(s))
		k := x.Leave(a)
		apart(t, "a Tab and what Leave was given", x, a)
		overwrite(a)
		if again := x.Leave(line(read(s))); again != k || shown(x, 5) != was {
			t.Errorf("Leave for %s is %d, then %d; the Tab has become %s", s, k, again, shown(x, 5))
		}
	}
}

// swaps has all places and columns swapped, and some that there are not, each
// from the same basis, by Tabs that copied makes of it.
func swaps(t *testing.T, s system, cols []int, copied func() *tab.Tab) {
	t.Helper()
	for k := -1; k <= len(cols); k++ {
		for j := -1; j <= s.n; j++ {
			x := copied()
			was := shown(x, s.n)
			now := swapped(t, x, s, cols, k, j)
			if !slices.Equal(now, cols) {
				alike(t, "Swap", x, s, now)
				holds(t, "Swap", x, s, now)
			} else if shown(x, s.n) != was {
				t.Fatalf("Swap of %d for %d in %s of %s is refused, and yet %s has become %s", k, j, ints(cols), s.text(), was, shown(x, s.n))
			}
		}
	}
}

// TestP175Swaps has every swap tried from every basis of some systems.
func TestP175Swaps(t *testing.T) {
	for _, s := range []system{
		{n: 0}, {n: 2}, set("2 = 3"), set("2 0 -1/3 = 1"), example(),
		set("1 2 0 1 = 1; 2 4 0 3 = 2"),
		set("1 0 1 2 = 1; 0 1 1 2 = 0; 0 0 0 5 = -1"),
	} {
		tuples(len(s.rows), 0, s.n, func(cols []int) {
			if x := tried(t, s, cols...); x != nil {
				swaps(t, s, cols, x.Copy)
				holds(t, "a Tab whose copies have swapped", x, s, cols)
			}
		})
	}
}

func TestP175Refused(t *testing.T) {
	s := set("1 2 0 0 1 = 4; 2 4 0 1 0 = 9; 0 0 0 0 7 = 1")
	x := made(t, s, 3, 1, 4)
	was := shown(x, s.n)
	for _, c := range []struct {
		k, j   int
		number api.Errno
		where  string
		at     int
	}{
		// no such place, whatever the column is
		{-1, 0, api.ErrBasis, "column", 0}, {3, 0, api.ErrBasis, "column", 0}, {3, 1, api.ErrBasis, "column", 1}, {3, 2, api.ErrBasis, "column", 2}, {3, 5, api.ErrBasis, "column", 5}, {-1, -1, api.ErrBasis, "column", -1}, {math.MaxInt, math.MinInt, api.ErrBasis, "column", math.MinInt}, {math.MinInt, math.MaxInt, api.ErrBasis, "column", math.MaxInt},
		// no such column
		{0, -1, api.ErrBasis, "column", -1}, {0, 5, api.ErrBasis, "column", 5}, {2, 6, api.ErrBasis, "column", 6}, {1, math.MinInt, api.ErrBasis, "column", math.MinInt}, {1, math.MaxInt, api.ErrBasis, "column", math.MaxInt},
		// one that the basis has, at the same place and at another one
		{0, 3, api.ErrBasis, "column", 3}, {1, 1, api.ErrBasis, "column", 1}, {2, 4, api.ErrBasis, "column", 4}, {0, 1, api.ErrBasis, "column", 1}, {0, 4, api.ErrBasis, "column", 4}, {1, 3, api.ErrBasis, "column", 3}, {2, 3, api.ErrBasis, "column", 3}, {2, 1, api.ErrBasis, "column", 1},
		// a determinant of 0: a column of 0, a multiple of another one's
		{0, 2, api.ErrSingular, "basis", 0}, {1, 2, api.ErrSingular, "basis", 1}, {2, 2, api.ErrSingular, "basis", 2}, {0, 0, api.ErrSingular, "basis", 0}, {2, 0, api.ErrSingular, "basis", 2},
	} {
		told(t, "Swap of "+strconv.Itoa(c.k)+" for "+strconv.Itoa(c.j), x.Swap(c.k, c.j), c.number, c.where, c.at)
		if now := shown(x, s.n); now != was {
			t.Fatalf("Swap of %d for %d is refused, and yet %s has become %s", c.k, c.j, was, now)
		}
	}
	holds(t, "Swap, refused", x, s, []int{3, 1, 4})
	if cols := swapped(t, x, s, []int{3, 1, 4}, 1, 0); !slices.Equal(cols, []int{3, 0, 4}) {
		t.Error("1 is", cols[1])
	}
	alike(t, "Swap behind errors", x, s, []int{3, 0, 4})
}

// TestP175Walk swaps again and again, and asks before and behind each swap what
// the chapter has them tell, and what a Tab just made tells.
func TestP175Walk(t *testing.T) {
	d := rolled(5)
	for range 30 {
		m := 1 + d.IntN(5)
		s, cols := d.based(m, m+1+d.IntN(4))
		x := made(t, s, cols...)
		holds(t, "New", x, s, cols)
		d.walk(t, x, s, cols, 25, func(k, was int, cols []int) {
			holds(t, "Swap", x, s, cols)
			alike(t, "Swap", x, s, cols)
		})
	}
}

// TestP175Refusals has a swap refused before and behind each one that is done.
func TestP175Refusals(t *testing.T) {
	d := rolled(6)
	refusals, done := 0, 0
	for range 20 {
		m := 1 + d.IntN(4)
		s, cols := d.based(m, m+1+d.IntN(4))
		x := made(t, s, cols...)
		for range 60 {
			now := swapped(t, x, s, cols, d.IntN(m+2)-1, d.IntN(s.n+2)-1)
			if slices.Equal(now, cols) {
				refusals++
			} else {
				done++
			}
			cols = now
			holds(t, "Swap", x, s, cols)
		}
		alike(t, "Swap", x, s, cols)
	}
	if refusals < 100 || done < 100 {
		t.Error(refusals, "refused,", done, "done")
	}
}

// TestP175Back has all swaps undone, the last one first.
func TestP175Back(t *testing.T) {
	d := rolled(7)
	type swap struct{ k, was int }
	for steps := range 22 {
		m := 1 + d.IntN(5)
		s, began := d.based(m, m+1+d.IntN(4))
		x := made(t, s, began...)
		was := shown(x, s.n)
		var all []swap
		cols := d.walk(t, x, s, began, steps, func(k, was int, cols []int) {
			all = append(all, swap{k, was})
		})
		for _, one := range slices.Backward(all) {
			cols = swapped(t, x, s, cols, one.k, one.was)
			valued(t, "on the way back", x, s, cols)
		}
		if now := shown(x, s.n); now != was || !slices.Equal(cols, began) {
			t.Fatalf("behind %d swaps of %s and back again, %s has become %s", len(all), s.text(), was, now)
		}
		holds(t, "back", x, s, began)
	}
}

// TestP175Great swaps where there are many rows and columns.
func TestP175Great(t *testing.T) {
	d := rolled(8)
	for _, size := range []struct{ m, n int }{{20, 44}, {63, 64}} {
		s := band(size.m, size.n)
		cols := s.all()[:size.m]
		x := made(t, s, cols...)
		cols = d.walk(t, x, s, cols, 12, func(k, was int, cols []int) {
			valued(t, "Swap", x, s, cols)
		})
		lined(t, "Swap", x, s, cols)
		columned(t, "Swap", x, s, cols)
		priced(t, "Swap", x, s, cols, numbers(size.n))
		swapped(t, x, s, cols, size.m, 0)
		swapped(t, x, s, cols, 0, size.n)
		swapped(t, x, s, cols, 0, cols[size.m-1])
		alike(t, "Swap", x, s, cols)
	}
}

// TestP175Long swaps columns of numbers of several words.
func TestP175Long(t *testing.T) {
	d := rolled(9)
	s, cols := long(), []int{4, 0, 2}
	x := made(t, s, cols...)
	d.walk(t, x, s, cols, 30, func(k, was int, cols []int) {
		holds(t, "Swap", x, s, cols)
		alike(t, "Swap", x, s, cols)
	})
}

// TestP175Copy changes a Tab and its copy, behind any number of swaps.
func TestP175Copy(t *testing.T) {
	d := rolled(10)
	for behind := range 20 {
		m := 1 + d.IntN(4)
		s, cols := d.based(m, m+1+d.IntN(3))
		x := made(t, s, cols...)
		cols = d.walk(t, x, s, cols, behind, unseen)
		own := x.Copy()
		apart(t, "Copy", x, own)
		holds(t, "Copy", own, s, cols)
		holds(t, "a Tab with a copy", x, s, cols)
		first, second := own, x
		if behind%2 == 0 {
			first, second = x, own
		}
		was := cols
		cols = d.walk(t, first, s, cols, 11, func(k, left int, cols []int) {
			holds(t, "one of both", first, s, cols)
			holds(t, "the other of both", second, s, was)
			apart(t, "both, and a copy of one", first, second, first.Copy())
		})
		other := d.walk(t, second, s, was, 11, unseen)
		alike(t, "one of both", first, s, cols)
		alike(t, "the other of both", second, s, other)
		apart(t, "both", first, second)
		swaps(t, s, cols, first.Copy)
	}
}

// TestP175CopyNothing copies what has no rows, or no columns either.
func TestP175CopyNothing(t *testing.T) {
	for _, n := range []int{0, 1, 64} {
		x := made(t, system{n: n})
		own := x.Copy()
		apart(t, "Copy", x, own)
		holds(t, "Copy", own, system{n: n}, nil)
	}
}

// TestP175Several has several Tabs of one standard form and of others swapped in
// turn: each tells what it would tell alone.
func TestP175Several(t *testing.T) {
	type kept struct {
		x    *tab.Tab
		s    system
		cols []int
	}
	d := rolled(11)
	for range 8 {
		m := 1 + d.IntN(4)
		s, cols := d.based(m, m+1+d.IntN(4))
		p := posed(s)
		first, err := tab.New(p, cols...)
		told(t, "New", err, api.OK, "", 0)
		second, err := tab.New(p, cols...)
		told(t, "New", err, api.OK, "", 0)
		other, otherCols := d.based(2, 5)
		all := []kept{{first, s, cols}, {second, s, cols}, {made(t, other, otherCols...), other, otherCols}}
		for range 30 {
			if d.IntN(8) == 0 {
				i := d.IntN(len(all))
				all = append(all, kept{all[i].x.Copy(), all[i].s, all[i].cols})
			}
			if len(all) > 5 {
				all = slices.Delete(all, 0, 1)
			}
			one := &all[d.IntN(len(all))]
			one.cols = swapped(t, one.x, one.s, one.cols, d.IntN(len(one.cols)), d.IntN(one.s.n))
			tabs := []any{p.A, p.B}
			for _, one := range all {
				holds(t, "one of several", one.x, one.s, one.cols)
				tabs = append(tabs, one.x)
			}
			apart(t, "several", tabs...)
		}
	}
}

// TestP175Apart overwrites what Basis has told before and behind swaps.
func TestP175Apart(t *testing.T) {
	x := made(t, example(), 2, 3)
	before := x.Basis()
	told(t, "Swap", x.Swap(0, 1), api.OK, "", 0)
	if !slices.Equal(before, []int{2, 3}) {
		t.Error("what Basis has told has become", ints(before))
	}
	overwriteInts(before)
	overwriteInts(x.Basis())
	holds(t, "Basis overwritten", x, example(), []int{1, 3})
	own := x.Copy()
	overwriteInts(own.Basis())
	told(t, "Swap", own.Swap(1, 0), api.OK, "", 0)
	holds(t, "Basis overwritten", own, example(), []int{1, 0})
	holds(t, "Basis overwritten", x, example(), []int{1, 3})
}

func TestP175Examples(t *testing.T) {
	p := prob.Prob{Cost: vec.Of(1, 1), Rows: []prob.Row{
		{Coef: vec.Of(1, 2), Kind: api.Ge, Rhs: rat.Int(4)}, {Coef: vec.Of(3, 1), Kind: api.Le, Rhs: rat.Int(9)},
	}}
	s, err := prob.Standard(p)
	told(t, "Standard", err, api.OK, "", 0)
	x, err := tab.New(s, 2, 3)
	told(t, "New", err, api.OK, "", 0)
	if !vec.Same(x.Values(), vec.Of(-4, 9)) {
		t.Error("Values are", lineText(x.Values()))
	}
	if y, ok := x.Duals(s.C); !ok || !vec.Same(y, vec.Of(0, 0)) {
		t.Error("Duals are", lineText(y), ok)
	}
	if c, ok := x.Prices(s.C); !ok || !vec.Same(c, vec.Of(1, 1, 0, 0)) {
		t.Error("Prices are", lineText(c), ok)
	}
	if a, ok := x.Line(0); !ok || !vec.Same(a, vec.Of(-1, -2, 1, 0)) {
		t.Error("Line is", lineText(a), ok)
	}
	if k := x.Leave(vec.Of(1, 3)); k != 0 {
		t.Error("Leave is", k)
	}
	told(t, "Swap", x.Swap(0, 1), api.OK, "", 0)
	if !vec.Same(x.Values(), vec.Of(2, 7)) {
		t.Error("Values are", lineText(x.Values()))
	}
	_, err = tab.New(s, 2, 2)
	told(t, "New", err, api.ErrBasis, "column", 1)
}
