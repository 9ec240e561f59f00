package mat_test

import (
	"math"
	"math/big"
	"reflect"
	"slices"
	"strconv"
	"strings"
	"testing"

	"actuary/api"
	"actuary/mat"
	"actuary/pack"
	"actuary/rat"
	"actuary/vec"
)

// row is some fractions, as math/big has them.
type row = []*big.Rat

// grid is a matrix of these.
type grid struct {
	cols int
	rows []row
}

// fraction is that of a text.
func fraction(s string) *big.Rat {
	v, ok := new(big.Rat).SetString(s)
	if !ok {
		panic(s)
	}
	return v
}

// read is the fractions of a text.
func read(s string) row {
	all := row{}
	for _, word := range strings.Fields(s) {
		all = append(all, fraction(word))
	}
	return all
}

// of is the Rat of a fraction.
func of(v *big.Rat) rat.Rat {
	a, err := pack.Read(v.RatString())
	if err != nil {
		panic(v)
	}
	return a
}

// line is the Vec of some.
func line(vs row) vec.Vec {
	var a vec.Vec
	for _, v := range vs {
		a = append(a, of(v))
	}
	return a
}

// lines are those of several.
func lines(rows []row) []vec.Vec {
	var as []vec.Vec
	for _, vs := range rows {
		as = append(as, line(vs))
	}
	return as
}

// sheet is the grid of some rows, each a text.
func sheet(cols int, rows ...string) grid {
	g := grid{cols: cols}
	for _, s := range rows {
		g.rows = append(g.rows, read(s))
	}
	return g
}

// filled is the grid of what at tells.
func filled(rows, cols int, at func(r, c int) *big.Rat) grid {
	g := grid{cols: cols, rows: make([]row, rows)}
	for r := range g.rows {
		for c := range cols {
			g.rows[r] = append(g.rows[r], at(r, c))
		}
	}
	return g
}

// mixed is a grid in which no two are the same: whole ones and broken ones,
// below 0 and above it, and one of several words.
func mixed(rows, cols int) grid {
	return filled(rows, cols, func(r, c int) *big.Rat {
		v := big.NewRat(int64(r*64+c-5), 1)
		if (r+c)%3 == 1 {
			v.Quo(v.Neg(v), big.NewRat(8192, 1))
		}
		if r == 1 && c == 0 {
			v.Mul(v, fraction("36893488147419103233/55340232221128654847"))
		}
		return v
	})
}

// noughts are so many of 0.
func noughts(rows, cols int) grid {
	return filled(rows, cols, func(r, c int) *big.Rat { return new(big.Rat) })
}

// numbers are so many that differ from those of mixed.
func numbers(n int) row {
	var all row
	for i := range n {
		all = append(all, big.NewRat(int64(3*i-40), int64(10007+i%2)))
	}
	return all
}

// mat is the Mat of g.
func (g grid) mat() mat.Mat {
	m, ok := mat.Of(g.cols, lines(g.rows)...)
	if !ok {
		panic(g.text())
	}
	return m
}

// col is a column of g.
func (g grid) col(c int) row {
	var all row
	for _, vs := range g.rows {
		all = append(all, vs[c])
	}
	return all
}

// turned has g's columns for rows.
func (g grid) turned() grid {
	return filled(g.cols, len(g.rows), func(r, c int) *big.Rat { return g.rows[c][r] })
}

// size tells how many rows and columns there are.
func size(rows, cols int) string {
	return strconv.Itoa(rows) + " by " + strconv.Itoa(cols) + ":"
}

// text is g in words.
func (g grid) text() string {
	s := size(len(g.rows), g.cols)
	for _, vs := range g.rows {
		s += rowText(vs)
	}
	return s
}

func rowText(vs row) string {
	s := "["
	for _, v := range vs {
		s += " " + v.RatString()
	}
	return s + " ]"
}

// text is a Mat in words, by its rows; what its columns and elements tell must
// be the same.
func text(m mat.Mat) string {
	s := size(m.Rows(), m.Cols())
	var rows []vec.Vec
	for r := range m.Rows() {
		v, ok := m.Row(r)
		if !ok || len(v) != m.Cols() {
			return s + " no row " + strconv.Itoa(r) + " of this length"
		}
		rows = append(rows, v)
		s += lineText(v)
	}
	for c := range m.Cols() {
		v, ok := m.Col(c)
		if !ok || len(v) != m.Rows() {
			return s + " no column " + strconv.Itoa(c) + " of this length"
		}
		for r, x := range v {
			if !rat.Same(rows[r][c], x) || !rat.Same(rows[r][c], m.At(r, c)) {
				return s + " and others at " + strconv.Itoa(r) + ", " + strconv.Itoa(c)
			}
		}
	}
	return s
}

func lineText(a vec.Vec) string {
	s := "["
	for _, x := range a {
		s += " " + pack.Text(x)
	}
	return s + " ]"
}

// is fails the test, if m is not g.
func is(t *testing.T, what string, m mat.Mat, g grid) {
	t.Helper()
	if got, want := text(m), g.text(); got != want {
		t.Fatalf("%s is %s; want %s", what, got, want)
	}
}

// holds fails the test, if what came, and whether it could, is not what was
// asked for: g, if it may be, and the zero Mat, if not.
func holds(t *testing.T, what string, m mat.Mat, ok, may bool, g func() grid) {
	t.Helper()
	if ok != may {
		t.Fatalf("%s: %t, %s", what, ok, text(m))
	}
	if ok {
		is(t, what, m, g())
	} else if !reflect.DeepEqual(m, mat.Mat{}) {
		t.Fatalf("%s: false, and yet %s", what, text(m))
	}
}

// holdsLine is the same of a Vec.
func holdsLine(t *testing.T, what string, a vec.Vec, ok, may bool, vs func() row) {
	t.Helper()
	if ok != may || !ok && a != nil {
		t.Fatalf("%s: %t, %s", what, ok, lineText(a))
	}
	if ok && lineText(a) != rowText(vs()) {
		t.Fatalf("%s is %s; want %s", what, lineText(a), rowText(vs()))
	}
}

// memory is where the words and elements of what is handed in lie.
func memory(of ...any) map[uintptr]int {
	seen := map[uintptr]int{}
	for _, v := range of {
		look(reflect.ValueOf(v), seen)
	}
	return seen
}

func look(v reflect.Value, seen map[uintptr]int) {
	switch v.Kind() {
	case reflect.Slice:
		if v.Cap() > 0 {
			seen[v.Pointer()]++
		}
		for i := range v.Len() {
			look(v.Index(i), seen)
		}
	case reflect.Struct:
		for i := range v.NumField() {
			look(v.Field(i), seen)
		}
	case reflect.Pointer:
		if !v.IsNil() {
			seen[v.Pointer()]++
			look(v.Elem(), seen)
		}
	}
}

// apart fails the test, if two of what it is given, or two of one's parts, lie
// in the same memory.
func apart(t *testing.T, name string, of ...any) {
	t.Helper()
	for at, times := range memory(of...) {
		if times > 1 {
			t.Fatalf("%s: %d of them at %x", name, times, at)
		}
	}
}

// overwrite puts something else into each element.
func overwrite(as ...vec.Vec) {
	for _, a := range as {
		for i := range a {
			a[i] = rat.Int(99)
		}
		// Nor must what lies behind the last one be anybody else's.
		_ = append(a, rat.Int(100))
	}
}

// lengths are those that differ in what they may.
var lengths = []int{0, 1, 2, 3, 5, api.MaxDim}

// ends are places beyond those that there are, and sizes that may not be.
var ends = []int{math.MinInt, math.MinInt + 1, -1 << 32, -65, -64, -2, -1, 65, 66, 128, 1 << 32, 1<<32 + 1, math.MaxInt - 1, math.MaxInt}

// places are the edges of so many, and beyond them.
func places(n int) []int {
	all := append([]int{0, 1, n - 2, n - 1, n, n + 1}, ends...)
	slices.Sort(all)
	return slices.Compact(all)
}

// eachSize has something done with a matrix of each size.
func eachSize(do func(g grid, m mat.Mat)) {
	for _, rows := range lengths {
		for _, cols := range lengths {
			g := mixed(rows, cols)
			do(g, g.mat())
		}
	}
}

// within tells whether k is one of n.
func within(k, n int) bool {
	return 0 <= k && k < n
}

func TestP111New(t *testing.T) {
	sizes := append([]int{0, 1, 2, 3, 31, 62, 63, 64}, ends...)
	for _, rows := range sizes {
		for _, cols := range sizes {
			m, ok := mat.New(rows, cols)
			may := within(rows, 65) && within(cols, 65)
			holds(t, "New "+size(rows, cols), m, ok, may, func() grid { return noughts(rows, cols) })
		}
	}
}

func TestP111NewEdges(t *testing.T) {
	for _, c := range []struct {
		rows, cols int
		ok         bool
	}{
		{-1, -1, false}, {-1, 0, false}, {-1, 1, false}, {-1, 64, false}, {-1, 65, false},
		{0, -1, false}, {0, 0, true}, {0, 1, true}, {0, 64, true}, {0, 65, false},
		{1, -1, false}, {1, 0, true}, {1, 1, true}, {1, 64, true}, {1, 65, false},
		{64, -1, false}, {64, 0, true}, {64, 1, true}, {64, 64, true}, {64, 65, false},
		{65, -1, false}, {65, 0, false}, {65, 1, false}, {65, 64, false}, {65, 65, false},
	} {
		m, ok := mat.New(c.rows, c.cols)
		if ok != c.ok || ok && (m.Rows() != c.rows || m.Cols() != c.cols) || !ok && (m.Rows() != 0 || m.Cols() != 0) {
			t.Errorf("New(%d, %d) has %d rows and %d columns, %t", c.rows, c.cols, m.Rows(), m.Cols(), ok)
		}
	}
}

func TestP111Zero(t *testing.T) {
	var m mat.Mat
	is(t, "a zero Mat", m, sheet(0))
	n, ok := mat.New(0, 0)
	if !ok || !mat.Same(m, n) || !m.At(0, 0).Zero() || m.Bits() != 0 {
		t.Error("a zero Mat is not New(0, 0)")
	}
	is(t, "its copy", m.Copy(), sheet(0))
	is(t, "it turned", m.Turned(), sheet(0))
	if r, ok := m.WithRow(nil); !ok || text(r) != sheet(0, "").text() {
		t.Error("a zero Mat with a row of no elements:", ok, text(r))
	}
	if r, ok := m.WithCol(nil); !ok || text(r) != sheet(1).text() {
		t.Error("a zero Mat with a column of no elements:", ok, text(r))
	}
}

func TestP111One(t *testing.T) {
	for _, n := range append([]int{0, 1, 2, 3, 31, 62, 63, 64}, ends...) {
		m, ok := mat.One(n)
		holds(t, "One "+size(n, n), m, ok, within(n, 65), func() grid {
			return filled(n, n, func(r, c int) *big.Rat {
				if r == c {
					return big.NewRat(1, 1)
				}
				return new(big.Rat)
			})
		})
	}
	for _, c := range []struct {
		n  int
		ok bool
	}{{-1, false}, {0, true}, {1, true}, {64, true}, {65, false}} {
		m, ok := mat.One(c.n)
		if ok != c.ok || ok && (m.Rows() != c.n || m.Cols() != c.n) || !ok && (m.Rows() != 0 || m.Cols() != 0) {
			t.Errorf("One(%d) has %d rows and %d columns, %t", c.n, m.Rows(), m.Cols(), ok)
		}
	}
	m, _ := mat.One(3)
	is(t, "One(3)", m, sheet(3, "1 0 0", "0 1 0", "0 0 1"))
}

func TestP111Of(t *testing.T) {
	for _, c := range []struct {
		cols int
		rows []string
		ok   bool
	}{
		{2, []string{"1 2", "3 4"}, true},
		{3, []string{"1/2 -2/3 0"}, true},
		{1, []string{"1", "2", "3"}, true},

		// no rows, and numbers of columns that no matrix has
		{0, nil, true},
		{1, nil, true},
		{64, nil, true},
		{65, nil, false},
		{-1, nil, false},
		{math.MinInt, nil, false},
		{math.MaxInt, nil, false},
		{-1, []string{""}, false},
		{-1, []string{"1"}, false},
		{math.MaxInt, []string{"1"}, false},

		// no columns
		{0, []string{""}, true},
		{0, []string{"", "", ""}, true},
		{0, []string{"1"}, false},
		{0, []string{"0", ""}, false},
		{0, []string{"", "0"}, false},

		// one that is too short or too long: the first, the last, one between, the only one
		{2, []string{"1", "3 4", "5 6"}, false},
		{2, []string{"1 2 3", "3 4", "5 6"}, false},
		{2, []string{"1 2", "3 4", "5"}, false},
		{2, []string{"1 2", "3 4", "5 6 7"}, false},
		{2, []string{"1 2", "3", "5 6"}, false},
		{2, []string{"1 2", "3 4 5", "5 6"}, false},
		{2, []string{"1"}, false},
		{2, []string{"1 2 3"}, false},
		{2, []string{""}, false},
		{2, []string{"", "3 4"}, false},
		{2, []string{"1 2", ""}, false},

		// all of one length, but not of that one
		{3, []string{"1 2", "3 4"}, false},
		{1, []string{"1 2", "3 4"}, false},
		{0, []string{"1 2", "3 4"}, false},
	} {
		ofRows(t, sheet(c.cols, c.rows...), c.ok)
	}
}

// ofRows holds Of against what is asked of these rows.
func ofRows(t *testing.T, g grid, may bool) {
	t.Helper()
	as := lines(g.rows)
	m, ok := mat.Of(g.cols, as...)
	holds(t, "Of "+g.text(), m, ok, may, func() grid { return g })
	if !slices.EqualFunc(as, lines(g.rows), vec.Same) {
		t.Fatalf("Of %s has changed the rows", g.text())
	}
}

func TestP111OfSizes(t *testing.T) {
	for _, rows := range append(lengths, 63, 65, 66) {
		for _, cols := range append(lengths, 63, 65, 66) {
			g := mixed(rows, cols)
			ofRows(t, g, rows <= 64 && cols <= 64)
			for _, k := range []int{0, rows / 2, rows - 1} {
				if within(k, rows) {
					short, long := slices.Clone(g.rows), slices.Clone(g.rows)
					short[k] = short[k][:max(cols-1, 0)]
					long[k] = append(slices.Clone(long[k]), new(big.Rat))
					ofRows(t, grid{cols, short}, rows <= 64 && cols == 0)
					ofRows(t, grid{cols, long}, false)
				}
			}
		}
	}
}

func TestP111Places(t *testing.T) {
	eachSize(func(g grid, m mat.Mat) {
		for _, r := range places(len(g.rows)) {
			there := within(r, len(g.rows))
			a, ok := m.Row(r)
			holdsLine(t, "row "+strconv.Itoa(r)+" of "+g.text(), a, ok, there, func() row { return g.rows[r] })
			for _, c := range places(g.cols) {
				want := new(big.Rat)
				if there && within(c, g.cols) {
					want = g.rows[r][c]
				}
				if got := m.At(r, c); pack.Text(got) != want.RatString() {
					t.Fatalf("At(%d, %d) of %s is %s", r, c, g.text(), pack.Text(got))
				}
			}
		}
		for _, c := range places(g.cols) {
			a, ok := m.Col(c)
			holdsLine(t, "column "+strconv.Itoa(c)+" of "+g.text(), a, ok, within(c, g.cols), func() row { return g.col(c) })
		}
		if m.Rows() != len(g.rows) || m.Cols() != g.cols {
			t.Fatalf("%d rows and %d columns: %s", m.Rows(), m.Cols(), g.text())
		}
		is(t, "what was asked", m, g)
	})
}

func TestP111PlacesTable(t *testing.T) {
	m := sheet(3, "1 2 3", "4 5 6").mat()
	for _, c := range []struct {
		r, c int
		want string
	}{
		{0, 0, "1"}, {0, 1, "2"}, {0, 2, "3"}, {1, 0, "4"}, {1, 1, "5"}, {1, 2, "6"},
		{-1, 0, "0"}, {-1, -1, "0"}, {0, -1, "0"}, {1, -1, "0"}, {-1, 2, "0"},
		{2, 0, "0"}, {2, 2, "0"}, {0, 3, "0"}, {1, 3, "0"}, {2, 3, "0"}, {-1, 3, "0"}, {2, -1, "0"},
	} {
		if got := pack.Text(m.At(c.r, c.c)); got != c.want {
			t.Errorf("At(%d, %d) is %s", c.r, c.c, got)
		}
	}
}

func TestP111Copy(t *testing.T) {
	eachSize(func(g grid, m mat.Mat) {
		n := m.Copy()
		is(t, "a copy", n, g)
		is(t, "what was copied", m, g)
		apart(t, "Copy of "+g.text(), m, n)
	})
}

// TestP111ResultsAreNew changes what the calls return.
func TestP111ResultsAreNew(t *testing.T) {
	eachSize(func(g grid, m mat.Mat) {
		for r := range g.rows {
			a, _ := m.Row(r)
			b, _ := m.Row(r)
			apart(t, "Row", m, a, b)
			overwrite(a)
			if lineText(b) != rowText(g.rows[r]) {
				t.Fatalf("row %d has become %s", r, lineText(b))
			}
		}
		for c := range g.cols {
			a, _ := m.Col(c)
			b, _ := m.Col(c)
			apart(t, "Col", m, a, b)
			overwrite(a)
			if lineText(b) != rowText(g.col(c)) {
				t.Fatalf("column %d has become %s", c, lineText(b))
			}
		}
		if len(g.rows) > 0 && g.cols > 0 {
			apart(t, "At", m, m.At(len(g.rows)-1, 0), m.At(len(g.rows)-1, 0))
		}
		is(t, "what was asked", m, g)
	})
}

// TestP111ArgumentsMayChange changes what was handed in.
func TestP111ArgumentsMayChange(t *testing.T) {
	eachSize(func(g grid, _ mat.Mat) {
		as := lines(g.rows)
		m, _ := mat.Of(g.cols, as...)
		apart(t, "Of", as, m)
		overwrite(as...)
		clear(as)
		is(t, "Of "+g.text(), m, g)
	})
	a, b := vec.Of(5, 6), vec.Of(7, 8)
	m := sheet(2, "1 2", "3 4").mat()
	more, _ := m.WithRow(a)
	wide, _ := m.WithCol(b)
	overwrite(a, b)
	is(t, "with a row", more, sheet(2, "1 2", "3 4", "5 6"))
	is(t, "with a column", wide, sheet(3, "1 2 7", "3 4 8"))
}

func TestP112With(t *testing.T) {
	eachSize(func(g grid, m mat.Mat) {
		for _, r := range places(len(g.rows)) {
			for _, c := range places(g.cols) {
				may := within(r, len(g.rows)) && within(c, g.cols)
				v := fraction("-36893488147419103235/7")
				x := of(v)
				n, ok := m.With(r, c, x)
				what := "With(" + strconv.Itoa(r) + ", " + strconv.Itoa(c) + ") of " + size(len(g.rows), g.cols)
				holds(t, what, n, ok, may, func() grid {
					return filled(len(g.rows), g.cols, func(i, j int) *big.Rat {
						if i == r && j == c {
							return v
						}
						return g.rows[i][j]
					})
				})
				apart(t, what, m, x, n)
				if pack.Text(x) != v.RatString() {
					t.Fatalf("%s has made %s of %s", what, pack.Text(x), v)
				}
			}
		}
		is(t, "what was changed", m, g)
	})
}

func TestP112WithNumbers(t *testing.T) {
	m := sheet(2, "1 2", "0 4").mat()
	for _, s := range []string{"0", "1", "-1", "1/3", "4", "18446744073709551616"} {
		n, ok := m.With(1, 0, of(fraction(s)))
		holds(t, "With "+s, n, ok, true, func() grid { return sheet(2, "1 2", s+" 4") })
		n, ok = m.With(0, 1, of(fraction(s)))
		holds(t, "With "+s, n, ok, true, func() grid { return sheet(2, "1 "+s, "0 4") })
	}
}

func TestP112More(t *testing.T) {
	eachSize(func(g grid, m mat.Mat) {
		for _, n := range []int{0, 1, 2, 3, 4, 5, 6, 63, 64, 65, 66, 130} {
			v := numbers(n)
			a := line(v)
			what := strconv.Itoa(n) + " more to " + size(len(g.rows), g.cols)

			more, ok := m.WithRow(a)
			holds(t, "a row of "+what, more, ok, n == g.cols && len(g.rows) < 64, func() grid {
				return grid{g.cols, append(slices.Clone(g.rows), v)}
			})
			apart(t, what, m, a, more)

			wide, ok := m.WithCol(a)
			holds(t, "a column of "+what, wide, ok, n == len(g.rows) && g.cols < 64, func() grid {
				return grid{len(g.rows), append(slices.Clone(g.turned().rows), v)}.turned()
			})
			apart(t, what, m, a, wide)
			if lineText(a) != rowText(v) {
				t.Fatalf("%s: it has become %s", what, lineText(a))
			}
			overwrite(a)
			if ok {
				is(t, what, wide, grid{len(g.rows), append(slices.Clone(g.turned().rows), v)}.turned())
			}
		}
		is(t, "what was added to", m, g)
	})
}

func TestP112MoreTable(t *testing.T) {
	for _, c := range []struct {
		rows, cols, length int
		row, col           bool
	}{
		{2, 3, 2, false, true}, {2, 3, 3, true, false}, {2, 3, 1, false, false}, {2, 3, 4, false, false}, {2, 3, 0, false, false},
		{2, 2, 2, true, true}, {2, 2, 1, false, false}, {2, 2, 3, false, false},

		// of no rows, of no columns, of neither
		{0, 3, 0, false, true}, {0, 3, 3, true, false}, {0, 3, 2, false, false}, {0, 3, 4, false, false},
		{3, 0, 0, true, false}, {3, 0, 3, false, true}, {3, 0, 2, false, false}, {3, 0, 4, false, false},
		{0, 0, 0, true, true}, {0, 0, 1, false, false},

		// one less than there may be, and as many
		{63, 1, 1, true, false}, {64, 1, 1, false, false}, {64, 1, 64, false, true}, {64, 1, 63, false, false}, {64, 1, 65, false, false},
		{1, 63, 1, false, true}, {1, 64, 1, false, false}, {1, 64, 64, true, false}, {1, 64, 63, false, false}, {1, 64, 65, false, false},
		{64, 0, 0, false, false}, {63, 0, 0, true, false}, {0, 64, 0, false, false}, {0, 63, 0, false, true},
		{64, 63, 64, false, true}, {63, 64, 64, true, false}, {64, 64, 64, false, false}, {63, 63, 63, true, true},
	} {
		m, a := mixed(c.rows, c.cols).mat(), line(numbers(c.length))
		more, row := m.WithRow(a)
		wide, col := m.WithCol(a)
		if row != c.row || row && (more.Rows() != c.rows+1 || more.Cols() != c.cols) || !row && (more.Rows() != 0 || more.Cols() != 0) {
			t.Errorf("%s with a row of %d: %t, %s", size(c.rows, c.cols), c.length, row, text(more))
		}
		if col != c.col || col && (wide.Cols() != c.cols+1 || wide.Rows() != c.rows) || !col && (wide.Rows() != 0 || wide.Cols() != 0) {
			t.Errorf("%s with a column of %d: %t, %s", size(c.rows, c.cols), c.length, col, text(wide))
		}
	}
}

// TestP112MoreTwice has two rows, or columns, added to one and the same matrix:
// neither may come into the other's result.
func TestP112MoreTwice(t *testing.T) {
	m := sheet(2, "1 2").mat()
	for range 5 {
		first, _ := m.WithRow(vec.Of(3, 4))
		second, _ := m.WithRow(vec.Of(5, 6))
		rows, r := text(m), m.Rows()
		is(t, "the first", mustRow(first, r), sheet(2, "3 4"))
		is(t, "the second", mustRow(second, r), sheet(2, "5 6"))

		wide, _ := m.WithCol(line(numbers(r)))
		wider, _ := m.WithCol(line(numbers(r + 1)[1:]))
		c := m.Cols()
		left, _ := wide.Col(c)
		right, _ := wider.Col(c)
		if lineText(left) != rowText(numbers(r)) || lineText(right) != rowText(numbers(r + 1)[1:]) || text(m) != rows {
			t.Fatalf("%s: with %s and with %s", rows, lineText(left), lineText(right))
		}
		m = first
	}
}

// mustRow is the matrix of one row of m alone.
func mustRow(m mat.Mat, r int) mat.Mat {
	v, _ := m.Row(r)
	n, _ := mat.Of(m.Cols(), v)
	return n
}

func TestP112Less(t *testing.T) {
	eachSize(func(g grid, m mat.Mat) {
		for _, r := range places(len(g.rows)) {
			n, ok := m.WithoutRow(r)
			what := size(len(g.rows), g.cols) + " without " + strconv.Itoa(r)
			holds(t, "row: "+what, n, ok, within(r, len(g.rows)), func() grid {
				return grid{g.cols, slices.Delete(slices.Clone(g.rows), r, r+1)}
			})
			apart(t, what, m, n)
		}
		for _, c := range places(g.cols) {
			n, ok := m.WithoutCol(c)
			what := size(len(g.rows), g.cols) + " without " + strconv.Itoa(c)
			holds(t, "column: "+what, n, ok, within(c, g.cols), func() grid {
				return grid{len(g.rows), slices.Delete(g.turned().rows, c, c+1)}.turned()
			})
			apart(t, what, m, n)
		}
		is(t, "what was taken from", m, g)
	})
}

func TestP112LessTable(t *testing.T) {
	m := sheet(3, "1 2 3", "4 5 6").mat()
	for _, c := range []struct {
		k        int
		row, col grid
	}{
		{0, sheet(3, "4 5 6"), sheet(2, "2 3", "5 6")},
		{1, sheet(3, "1 2 3"), sheet(2, "1 3", "4 6")},
		{2, sheet(-1), sheet(2, "1 2", "4 5")},
		{3, sheet(-1), sheet(-1)},
		{-1, sheet(-1), sheet(-1)},
	} {
		n, ok := m.WithoutRow(c.k)
		holds(t, "without row "+strconv.Itoa(c.k), n, ok, c.row.cols >= 0, func() grid { return c.row })
		n, ok = m.WithoutCol(c.k)
		holds(t, "without column "+strconv.Itoa(c.k), n, ok, c.col.cols >= 0, func() grid { return c.col })
	}
	one := sheet(1, "7").mat()
	n, ok := one.WithoutRow(0)
	holds(t, "of one row", n, ok, true, func() grid { return sheet(1) })
	n, ok = one.WithoutCol(0)
	holds(t, "of one column", n, ok, true, func() grid { return sheet(0, "") })
}

// pick holds Pick against what is asked of these columns.
func pick(t *testing.T, g grid, m mat.Mat, cols []int) {
	t.Helper()
	before := slices.Clone(cols)
	may := len(cols) <= 64
	for _, c := range cols {
		may = may && within(c, g.cols)
	}
	n, ok := m.Pick(cols...)
	holds(t, "some of "+size(len(g.rows), g.cols), n, ok, may, func() grid {
		return filled(len(g.rows), len(cols), func(r, c int) *big.Rat { return g.rows[r][cols[c]] })
	})
	apart(t, "Pick of "+size(len(g.rows), g.cols), m, n, cols)
	if !slices.Equal(cols, before) {
		t.Fatalf("Pick has made %v of %v", cols, before)
	}
	for i := range cols {
		cols[i] = -7
	}
	if ok {
		is(t, "what was picked", n, filled(len(g.rows), len(before), func(r, c int) *big.Rat { return g.rows[r][before[c]] }))
	}
}

func TestP112Pick(t *testing.T) {
	eachSize(func(g grid, m mat.Mat) {
		all := make([]int, g.cols)
		for c := range all {
			all[c] = c
		}
		pick(t, g, m, nil)
		pick(t, g, m, []int{})
		pick(t, g, m, append(make([]int, 0, 130), all...)) // what lies behind the last one doesn't count
		pick(t, g, m, slices.Clone(all))
		slices.Reverse(all)
		pick(t, g, m, slices.Clone(all))
		for _, c := range places(g.cols) {
			pick(t, g, m, []int{c})
			pick(t, g, m, []int{c, c, c})
			for _, n := range []int{63, 64, 65, 66, 130} {
				pick(t, g, m, slices.Repeat([]int{c}, n))
			}
			pick(t, g, m, append([]int{c}, all...))
			pick(t, g, m, append(slices.Clone(all), c))
			if g.cols > 2 {
				between := slices.Clone(all)
				between[1] = c
				pick(t, g, m, between)
			}
		}
		is(t, "what was picked from", m, g)
	})
}

func TestP112PickTable(t *testing.T) {
	m := sheet(3, "1 2 3", "4 5 6").mat()
	for _, c := range []struct {
		cols []int
		want grid
	}{
		{nil, sheet(0, "", "")},
		{[]int{0}, sheet(1, "1", "4")},
		{[]int{2}, sheet(1, "3", "6")},
		{[]int{0, 1, 2}, sheet(3, "1 2 3", "4 5 6")},
		{[]int{2, 0, 1}, sheet(3, "3 1 2", "6 4 5")},
		{[]int{2, 0}, sheet(2, "3 1", "6 4")},
		{[]int{1, 1}, sheet(2, "2 2", "5 5")},
		{[]int{1, 1, 0, 1}, sheet(4, "2 2 1 2", "5 5 4 5")},
		{[]int{-1}, sheet(-1)},
		{[]int{3}, sheet(-1)},
		{[]int{0, 3}, sheet(-1)},
		{[]int{3, 0}, sheet(-1)},
		{[]int{0, -1, 1}, sheet(-1)},
		{slices.Repeat([]int{0}, 65), sheet(-1)},
	} {
		n, ok := m.Pick(c.cols...)
		holds(t, "Pick", n, ok, c.want.cols >= 0, func() grid { return c.want })
	}
	n, ok := m.Pick(slices.Repeat([]int{1}, 64)...)
	if !ok || n.Cols() != 64 || n.Rows() != 2 || pack.Text(n.At(1, 63)) != "5" {
		t.Error("a column, 64 times:", ok, text(n))
	}
}

func TestP112Turned(t *testing.T) {
	eachSize(func(g grid, m mat.Mat) {
		n := m.Turned()
		is(t, "turned", n, g.turned())
		is(t, "turned twice", n.Turned(), g)
		is(t, "what was turned", m, g)
		apart(t, "Turned", m, n)
	})
	is(t, "turned", sheet(3, "1 2 3", "4 5 6").mat().Turned(), sheet(2, "1 4", "2 5", "3 6"))
	is(t, "turned", sheet(3).mat().Turned(), sheet(0, "", "", ""))
	is(t, "turned", sheet(0, "", "", "").mat().Turned(), sheet(3))
}

// dot is the sum of the products.
func dot(v, w row) *big.Rat {
	sum := new(big.Rat)
	for i := range v {
		sum.Add(sum, new(big.Rat).Mul(v[i], w[i]))
	}
	return sum
}

// dots is dot of each and w.
func dots(rows []row, w row) row {
	var all row
	for _, v := range rows {
		all = append(all, dot(v, w))
	}
	return all
}

func TestP113Vectors(t *testing.T) {
	eachSize(func(g grid, m mat.Mat) {
		for _, n := range []int{0, 1, 2, 3, 4, 5, 6, 63, 64, 65, 66, 130} {
			v := numbers(n)
			a := line(v)
			what := size(len(g.rows), g.cols) + " and " + strconv.Itoa(n)
			times, ok := m.Times(a)
			holdsLine(t, "Times of "+what, times, ok, n == g.cols, func() row { return dots(g.rows, v) })
			by, ok := m.By(a)
			holdsLine(t, "By of "+what, by, ok, n == len(g.rows), func() row { return dots(g.turned().rows, v) })
			apart(t, what, m, a, times, by)
			if lineText(a) != rowText(v) {
				t.Fatalf("%s: it has become %s", what, lineText(a))
			}
			overwrite(times, by)
		}
		is(t, "what was multiplied", m, g)
	})
}

func TestP113VectorsTable(t *testing.T) {
	for _, c := range []struct {
		g         grid
		v         string
		times, by string
	}{
		{sheet(2, "1 2", "3 4"), "1 1", "3 7", "4 6"},
		{sheet(2, "1 2", "3 4"), "1 0", "1 3", "1 2"},
		{sheet(2, "1 2", "3 4"), "0 1", "2 4", "3 4"},
		{sheet(2, "1 2", "3 4"), "0 0", "0 0", "0 0"},
		{sheet(2, "1 2", "3 4"), "-1/2 1/3", "1/6 -1/6", "1/2 1/3"},
		{sheet(3, "1 2 3", "4 5 6"), "1 10 100", "321 654", "no"},
		{sheet(3, "1 2 3", "4 5 6"), "1 10", "no", "41 52 63"},
		{sheet(3, "1 2 3", "4 5 6"), "1", "no", "no"},
		{sheet(3, "1 2 3", "4 5 6"), "", "no", "no"},
		{sheet(3, "1 2 3", "4 5 6"), "1 1 1 1", "no", "no"},

		// no rows, no columns, neither
		{sheet(3), "", "no", "0 0 0"},
		{sheet(3), "1 2 3", "", "no"},
		{sheet(3), "1", "no", "no"},
		{sheet(3), "1 2 3 4", "no", "no"},
		{sheet(0, "", "", ""), "", "0 0 0", "no"},
		{sheet(0, "", "", ""), "1 2 3", "no", ""},
		{sheet(0, "", "", ""), "1 2", "no", "no"},
		{sheet(0), "", "", ""},
		{sheet(0), "1", "no", "no"},
	} {
		m, a := c.g.mat(), line(read(c.v))
		times, ok := m.Times(a)
		holdsLine(t, c.g.text()+" Times "+c.v, times, ok, c.times != "no", func() row { return read(c.times) })
		by, ok := m.By(a)
		holdsLine(t, c.g.text()+" By "+c.v, by, ok, c.by != "no", func() row { return read(c.by) })
	}
}

// mul holds Mul against math/big.
func mul(t *testing.T, g, h grid) {
	t.Helper()
	a, b := g.mat(), h.mat()
	p, ok := mat.Mul(a, b)
	what := size(len(g.rows), g.cols) + " times " + size(len(h.rows), h.cols)
	holds(t, what, p, ok, g.cols == len(h.rows), func() grid {
		columns := h.turned().rows
		return filled(len(g.rows), h.cols, func(r, c int) *big.Rat { return dot(g.rows[r], columns[c]) })
	})
	apart(t, what, a, b, p)
	is(t, "the first of "+what, a, g)
	is(t, "the second of "+what, b, h)
}

func TestP113Mul(t *testing.T) {
	few := []int{0, 1, 2, 3, 5}
	for _, rows := range few {
		for _, between := range few {
			for _, other := range few {
				for _, cols := range few {
					mul(t, mixed(rows, between), filled(other, cols, func(r, c int) *big.Rat {
						return big.NewRat(int64(7*c-11*r+1), int64(1+(r+c)%4))
					}))
				}
			}
		}
	}
}

func TestP113MulGreat(t *testing.T) {
	for _, c := range [][4]int{
		{64, 64, 64, 64}, {64, 64, 63, 64}, {64, 63, 64, 64},
		{64, 0, 0, 64}, {0, 64, 64, 0}, {0, 64, 64, 64}, {64, 64, 64, 0}, {64, 1, 1, 64}, {1, 64, 64, 1},
		{64, 0, 1, 64}, {64, 1, 0, 64}, {0, 64, 0, 64}, {64, 0, 64, 0},
	} {
		mul(t, mixed(c[0], c[1]), filled(c[2], c[3], func(r, c int) *big.Rat { return big.NewRat(int64(r*c%7-3), 1) }))
	}
}

func TestP113MulTable(t *testing.T) {
	for _, c := range []struct {
		a, b, want grid
	}{
		{sheet(2, "1 2", "3 4"), sheet(2, "1 0", "0 1"), sheet(2, "1 2", "3 4")},
		{sheet(2, "1 0", "0 1"), sheet(2, "1 2", "3 4"), sheet(2, "1 2", "3 4")},
		{sheet(2, "1 2", "3 4"), sheet(2, "0 1", "1 0"), sheet(2, "2 1", "4 3")},
		{sheet(2, "0 1", "1 0"), sheet(2, "1 2", "3 4"), sheet(2, "3 4", "1 2")},
		{sheet(2, "1 2"), sheet(1, "3", "4"), sheet(1, "11")},
		{sheet(1, "3", "4"), sheet(2, "1 2"), sheet(2, "3 6", "4 8")},
		{sheet(3, "1 2 3", "4 5 6"), sheet(2, "1/2 0", "0 1/3", "1 -1"), sheet(2, "7/2 -7/3", "8 -13/3")},

		// nothing between: noughts
		{sheet(0, "", ""), sheet(3), sheet(3, "0 0 0", "0 0 0")},
		{sheet(0), sheet(2), sheet(2)},
		{sheet(0, ""), sheet(0), sheet(0, "")},
		{sheet(0), sheet(0), sheet(0)},
		{sheet(2), sheet(1, "3", "4"), sheet(1)},
		{sheet(1, "3", "4"), sheet(0, ""), sheet(0, "", "")},

		// sizes that don't fit
		{sheet(3, "1 2 3", "4 5 6"), sheet(3, "1 2 3", "4 5 6"), sheet(-1)},
		{sheet(2, "1 2", "3 4"), sheet(2, "1 2"), sheet(-1)},
		{sheet(2, "1 2"), sheet(2, "1 2", "3 4", "5 6"), sheet(-1)},
		{sheet(2, "1 2"), sheet(2), sheet(-1)},
		{sheet(0, "", ""), sheet(2, "1 2"), sheet(-1)},
		{sheet(0), sheet(0, ""), sheet(-1)},
		{sheet(1), sheet(1), sheet(-1)},
	} {
		p, ok := mat.Mul(c.a.mat(), c.b.mat())
		holds(t, c.a.text()+" times "+c.b.text(), p, ok, c.want.cols >= 0, func() grid { return c.want })
	}
}

// TestP113MulItself has one matrix in both places.
func TestP113MulItself(t *testing.T) {
	m := sheet(2, "1 2", "3 4").mat()
	p, ok := mat.Mul(m, m)
	holds(t, "the square", p, ok, true, func() grid { return sheet(2, "7 10", "15 22") })
	is(t, "what was multiplied", m, sheet(2, "1 2", "3 4"))
	apart(t, "the square", m, p)
}

func TestP113SameSizes(t *testing.T) {
	var sizes []grid
	for _, rows := range lengths {
		for _, cols := range lengths {
			sizes = append(sizes, noughts(rows, cols))
		}
	}
	for i, g := range sizes {
		for j, h := range sizes {
			if got := mat.Same(g.mat(), h.mat()); got != (i == j) {
				t.Fatalf("Same of noughts, %s and %s: %t", size(len(g.rows), g.cols), size(len(h.rows), h.cols), got)
			}
		}
	}
}

func TestP113SameTable(t *testing.T) {
	for _, c := range []struct {
		a, b grid
		want bool
	}{
		{sheet(2, "1 2", "3 4"), sheet(2, "1 2", "3 4"), true},
		{sheet(2, "1/2 -2/4"), sheet(2, "2/4 -1/2"), true},
		{sheet(2, "1 2", "3 4"), sheet(2, "1 2", "3 5"), false},
		{sheet(2, "1 2", "3 4"), sheet(2, "0 2", "3 4"), false},
		{sheet(2, "1 2", "3 4"), sheet(2, "1 2", "3 -4"), false},
		{sheet(2, "1 2", "3 4"), sheet(2, "1 3", "2 4"), false},
		{sheet(2, "1 2", "3 4"), sheet(2, "3 4", "1 2"), false},

		// the same elements, but not in the same sizes
		{sheet(2, "1 2", "3 4"), sheet(4, "1 2 3 4"), false},
		{sheet(2, "1 2", "3 4"), sheet(1, "1", "2", "3", "4"), false},
		{sheet(2, "1 2", "3 4"), sheet(2, "1 2"), false},
		{sheet(2, "1 2", "0 0"), sheet(2, "1 2"), false},
		{sheet(2, "1 2"), sheet(3, "1 2 0"), false},
		{sheet(1, "1"), sheet(0, ""), false},
		{sheet(1, "1"), sheet(1), false},

		// no elements
		{sheet(0), sheet(0), true},
		{sheet(3), sheet(3), true},
		{sheet(0, "", ""), sheet(0, "", ""), true},
		{sheet(0), sheet(1), false},
		{sheet(0), sheet(0, ""), false},
		{sheet(1), sheet(0, ""), false},
		{sheet(2), sheet(3), false},
		{sheet(0, ""), sheet(0, "", ""), false},
	} {
		a, b := c.a.mat(), c.b.mat()
		if mat.Same(a, b) != c.want || mat.Same(b, a) != c.want {
			t.Errorf("Same of %s and %s: %t, %t", c.a.text(), c.b.text(), mat.Same(a, b), mat.Same(b, a))
		}
	}
}

func TestP113SameBut(t *testing.T) {
	eachSize(func(g grid, m mat.Mat) {
		if !mat.Same(m, m) || !mat.Same(m, g.mat()) {
			t.Fatalf("%s is not the same as itself", g.text())
		}
		for _, r := range places(len(g.rows)) {
			for _, c := range places(g.cols) {
				if within(r, len(g.rows)) && within(c, g.cols) {
					n, _ := m.With(r, c, rat.Add(m.At(r, c), of(fraction("1/18446744073709551617"))))
					if mat.Same(m, n) || mat.Same(n, m) {
						t.Fatalf("%s is the same as with a little more at %d, %d", size(len(g.rows), g.cols), r, c)
					}
				}
			}
		}
		is(t, "what was compared", m, g)
	})
}

func TestP113Bits(t *testing.T) {
	for _, c := range []struct {
		g    grid
		want int
	}{
		{sheet(0), 0}, {sheet(3), 0}, {sheet(64), 0}, {sheet(0, ""), 0}, {sheet(0, "", "", ""), 0},
		{sheet(1, "0"), 1}, {sheet(2, "0 0", "0 0"), 1},
		{sheet(1, "1"), 2}, {sheet(1, "-1"), 2}, {sheet(1, "1/2"), 3},
		{sheet(2, "1 2", "3 4"), 4},

		// the longest at each place
		{sheet(2, "-255/256 2", "3 4"), 17},
		{sheet(2, "1 -255/256", "3 4"), 17},
		{sheet(2, "1 2", "-255/256 4"), 17},
		{sheet(2, "1 2", "3 -255/256"), 17},
		{sheet(1, "1/18446744073709551616", "7", "1"), 66},
		{sheet(1, "7", "1", "1/18446744073709551616"), 66},
		{sheet(3, "18446744073709551616 0 1"), 66},
		{sheet(3, "0 1 18446744073709551616"), 66},
	} {
		m := c.g.mat()
		if got := m.Bits(); got != c.want {
			t.Errorf("Bits of %s: %d, want %d", c.g.text(), got, c.want)
		}
		is(t, "what was asked", m, c.g)
	}
	eachSize(func(g grid, m mat.Mat) {
		want := 0
		for _, vs := range g.rows {
			for _, v := range vs {
				want = max(want, v.Num().BitLen()+v.Denom().BitLen())
			}
		}
		if m.Bits() != want {
			t.Fatalf("Bits of %s: %d, want %d", g.text(), m.Bits(), want)
		}
	})
}

// TestP112OneRowTwice has the same Vec for several rows.
func TestP112OneRowTwice(t *testing.T) {
	a := vec.Of(1, 2)
	m, ok := mat.Of(2, a, a, a)
	holds(t, "one row, thrice", m, ok, true, func() grid { return sheet(2, "1 2", "1 2", "1 2") })
	apart(t, "one row, thrice", a, m)
	n, ok := m.With(1, 0, rat.Int(9))
	holds(t, "with another one", n, ok, true, func() grid { return sheet(2, "1 2", "9 2", "1 2") })
	n, ok = n.Pick(0, 0)
	holds(t, "one column, twice", n, ok, true, func() grid { return sheet(2, "1 1", "9 9", "1 1") })
	apart(t, "one column, twice", n)
}

// TestP112Chain goes from one result to the next, and looks at all of them in the end.
func TestP112Chain(t *testing.T) {
	var all []mat.Mat
	var texts []string
	m := mat.Mat{}
	keep := func(n mat.Mat, ok bool) {
		if !ok {
			t.Fatal("after", text(m))
		}
		m = n
		all, texts = append(all, m), append(texts, text(m))
	}
	for k := range 12 {
		keep(m.WithRow(line(numbers(m.Cols()))))
		keep(m.WithCol(line(numbers(m.Rows()))))
		keep(m.With(m.Rows()-1, 0, rat.Int(k+1000)))
		keep(m.Turned(), true)
		one, _ := mat.One(m.Rows())
		keep(mat.Mul(one, m))
		keep(m.Copy(), true)
		keep(m.Pick(0, m.Cols()-1, 0))
		keep(m.WithoutRow(k % m.Rows()))
		keep(m.WithoutCol(k % m.Cols()))
	}
	for i, n := range all {
		if text(n) != texts[i] {
			t.Fatalf("%s has become %s", texts[i], text(n))
		}
	}
	apart(t, "all of them", all)
}

func TestP113Examples(t *testing.T) {
	m, ok := mat.Of(2, vec.Of(1, 2), vec.Of(3, 4))
	holds(t, "Of", m, ok, true, func() grid { return sheet(2, "1 2", "3 4") })
	times, ok := m.Times(vec.Of(1, 1))
	holdsLine(t, "Times", times, ok, true, func() row { return read("3 7") })
	by, ok := m.By(vec.Of(1, 1))
	holdsLine(t, "By", by, ok, true, func() row { return read("4 6") })
	is(t, "turned", m.Turned(), sheet(2, "1 3", "2 4"))
	p, ok := m.Pick(1, 1)
	holds(t, "Pick", p, ok, true, func() grid { return sheet(2, "2 2", "4 4") })
	p, ok = m.WithRow(vec.Of(1))
	holds(t, "WithRow", p, ok, false, nil)
	one, _ := mat.One(2)
	p, ok = mat.Mul(m, one)
	holds(t, "Mul", p, ok, true, func() grid { return sheet(2, "1 2", "3 4") })
}
