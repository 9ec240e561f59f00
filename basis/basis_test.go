package basis_test

import (
	"math"
	"math/big"
	"math/rand/v2"
	"reflect"
	"slices"
	"strconv"
	"strings"
	"testing"

	"actuary/api"
	"actuary/basis"
	"actuary/mat"
	"actuary/pack"
	"actuary/rat"
	"actuary/vec"
)

// row is some fractions, as math/big has them.
type row = []*big.Rat

// fraction is that of a text.
func fraction(s string) *big.Rat {
	v, ok := new(big.Rat).SetString(s)
	if !ok {
		panic(s)
	}
	return v
}

// read is the fractions of a text.
func read(s string) row {
	all := row{}
	for _, word := range strings.Fields(s) {
		all = append(all, fraction(word))
	}
	return all
}

// reads are the columns of texts.
func reads(texts ...string) []row {
	all := []row{}
	for _, s := range texts {
		all = append(all, read(s))
	}
	return all
}

// of is the Rat of a fraction.
func of(v *big.Rat) rat.Rat {
	a, err := pack.Read(v.RatString())
	if err != nil {
		panic(v)
	}
	return a
}

// line is the Vec of some.
func line(vs row) vec.Vec {
	var a vec.Vec
	for _, v := range vs {
		a = append(a, of(v))
	}
	return a
}

// lines are those of several.
func lines(rows []row) []vec.Vec {
	var as []vec.Vec
	for _, vs := range rows {
		as = append(as, line(vs))
	}
	return as
}

// back is a Vec as math/big has it.
func back(a vec.Vec) row {
	vs := row{}
	for _, x := range a {
		vs = append(vs, fraction(pack.Text(x)))
	}
	return vs
}

// text is fractions in words; texts is that of several; lineText of a Vec.
func text(vs row) string {
	s := "["
	for _, v := range vs {
		s += " " + v.RatString()
	}
	return s + " ]"
}

func texts(rows []row) string {
	s := strconv.Itoa(len(rows)) + ":"
	for _, vs := range rows {
		s += text(vs)
	}
	return s
}

func lineText(a vec.Vec) string {
	return text(back(a))
}

// filled are so many rows of what at tells.
func filled(rows, cols int, at func(r, c int) *big.Rat) []row {
	all := make([]row, rows)
	for r := range all {
		all[r] = row{}
		for c := range cols {
			all[r] = append(all[r], at(r, c))
		}
	}
	return all
}

// noughts are so many of 0.
func noughts(n int) row {
	return filled(1, n, func(r, c int) *big.Rat { return new(big.Rat) })[0]
}

// one are the n columns that have 1 from corner to corner.
func one(n int) []row {
	return filled(n, n, func(r, c int) *big.Rat {
		if r == c {
			return big.NewRat(1, 1)
		}
		return new(big.Rat)
	})
}

// numbers are so many that differ.
func numbers(n int) row {
	all := row{}
	for i := range n {
		all = append(all, big.NewRat(int64(3*i-40), int64(7+i%2)))
	}
	return all
}

// turned has columns for rows.
func turned(rows []row) []row {
	if len(rows) == 0 {
		return nil
	}
	return filled(len(rows[0]), len(rows), func(r, c int) *big.Rat { return rows[c][r] })
}

// dots are the sums of the products of each row and x.
func dots(rows []row, x row) row {
	all := row{}
	for _, vs := range rows {
		sum := new(big.Rat)
		for i, v := range vs {
			sum.Add(sum, new(big.Rat).Mul(v, x[i]))
		}
		all = append(all, sum)
	}
	return all
}

// plus is a and r times b.
func plus(a row, r *big.Rat, b row) row {
	all := row{}
	for i, v := range a {
		all = append(all, new(big.Rat).Add(v, new(big.Rat).Mul(r, b[i])))
	}
	return all
}

// sum is so often each of some columns, together.
func sum(often row, cols []row) row {
	all := noughts(len(cols[0]))
	for i, col := range cols {
		all = plus(all, often[i], col)
	}
	return all
}

// independent tells whether no column is a sum of multiples of others.
func independent(cols []row) bool {
	left := slices.Clone(cols)
	for r := range cols {
		k := slices.IndexFunc(left, func(col row) bool { return col[r].Sign() != 0 })
		if k < 0 {
			return false
		}
		lead := left[k]
		left = slices.Delete(slices.Clone(left), k, k+1)
		for i, col := range left {
			left[i] = plus(col, new(big.Rat).Neg(new(big.Rat).Quo(col[r], lead[r])), lead)
		}
	}
	return true
}

// without is some with 0 at a place.
func without(vs row, k int) row {
	vs = slices.Clone(vs)
	vs[k] = new(big.Rat)
	return vs
}

// with is the columns with another one at a place.
func with(cols []row, k int, col row) []row {
	cols = slices.Clone(cols)
	cols[k] = col
	return cols
}

// grown is the columns with a row more and a column more.
func grown(cols []row, r, col row) []row {
	all := []row{}
	for k, vs := range cols {
		all = append(all, append(slices.Clone(vs), r[k]))
	}
	return append(all, col)
}

// shrunk is the columns without a row and a column.
func shrunk(cols []row, r, c int) []row {
	all := []row{}
	for _, vs := range slices.Delete(slices.Clone(cols), c, c+1) {
		all = append(all, slices.Delete(slices.Clone(vs), r, r+1))
	}
	return all
}

// told fails the test, if an error is not of this number at this place; "": at none.
func told(t *testing.T, what string, err error, number api.Errno, where string, at int) {
	t.Helper()
	w, k, is := api.Place(err)
	if (err == nil) != (number == api.OK) || api.Number(err) != number || is != (where != "") || w != where || k != at {
		t.Fatalf("%s: %v, of number %d at %q %d, %t; want %d at %q %d", what, err, api.Number(err), w, k, is, number, where, at)
	}
}

// made is New of the columns, which there must be.
func made(t *testing.T, cols []row) *basis.Basis {
	t.Helper()
	as := lines(cols)
	b, err := basis.New(as...)
	if err != nil || b == nil {
		t.Fatalf("New of %s: %v", texts(cols), err)
	}
	for k, a := range as {
		if lineText(a) != text(cols[k]) {
			t.Fatalf("New has made %s of %s", lineText(a), text(cols[k]))
		}
	}
	return b
}

// refused fails the test, if New of the columns does not tell this error.
func refused(t *testing.T, cols []row, number api.Errno, where string, at int) {
	t.Helper()
	b, err := basis.New(lines(cols)...)
	told(t, "New of "+texts(cols), err, number, where, at)
	if b != nil {
		t.Fatalf("New of %s: an error, and yet a basis", texts(cols))
	}
}

// rights are some that fit: 0, such as are 0 but for one place, and such as are 0 nowhere.
func rights(n int) []row {
	all := []row{noughts(n), numbers(n)}
	for _, k := range []int{0, 1, n / 2, n - 1} {
		if 0 <= k && k < n {
			all = append(all, one(n)[k])
		}
	}
	return all
}

// solves fails the test, if Solve and SolveT of v are no solutions by the columns.
func solves(t *testing.T, what string, b *basis.Basis, cols []row, v row) {
	t.Helper()
	a := line(v)
	x, ok := b.Solve(a)
	if !ok || len(x) != len(cols) || text(dots(turned(cols), back(x))) != text(v) {
		t.Fatalf("%s: Solve of %s and %s is %s, %t", what, texts(cols), text(v), lineText(x), ok)
	}
	y, ok := b.SolveT(a)
	if !ok || len(y) != len(cols) || text(dots(cols, back(y))) != text(v) {
		t.Fatalf("%s: SolveT of %s and %s is %s, %t", what, texts(cols), text(v), lineText(y), ok)
	}
	if lineText(a) != text(v) {
		t.Fatalf("%s: Solve or SolveT has made %s of %s", what, lineText(a), text(v))
	}
}

// shown fails the test, if b does not tell these columns and etas.
func shown(t *testing.T, what string, b *basis.Basis, cols []row, etas int) {
	t.Helper()
	n := len(cols)
	if b.Size() != n || b.Etas() != etas {
		t.Fatalf("%s: Size of %s is %d, Etas %d; want %d", what, texts(cols), b.Size(), b.Etas(), etas)
	}
	m := b.Matrix()
	if m.Rows() != n || m.Cols() != n {
		t.Fatalf("%s: Matrix of %s is %d by %d", what, texts(cols), m.Rows(), m.Cols())
	}
	for k, col := range cols {
		a, ok := b.Column(k)
		c, _ := m.Col(k)
		if !ok || lineText(a) != text(col) || lineText(c) != text(col) {
			t.Fatalf("%s: column %d of %s is %s, %t, and in its matrix %s", what, k, texts(cols), lineText(a), ok, lineText(c))
		}
	}
	for _, k := range []int{-1, n, n + 1, -n - 1, math.MinInt, math.MaxInt} {
		if a, ok := b.Column(k); ok || len(a) > 0 {
			t.Fatalf("%s: column %d of %s is %s, %t", what, k, texts(cols), lineText(a), ok)
		}
	}
}

// holds fails the test, if b does not tell all that is asked of these columns.
func holds(t *testing.T, what string, b *basis.Basis, cols []row, etas int) {
	t.Helper()
	shown(t, what, b, cols, etas)
	for _, v := range rights(len(cols)) {
		solves(t, what, b, cols, v)
	}
	shown(t, what+", solved", b, cols, etas)
}

// replaced has a column replaced, which must be possible.
func replaced(t *testing.T, b *basis.Basis, k int, col row) {
	t.Helper()
	a := line(col)
	told(t, "Replace of "+strconv.Itoa(k)+" by "+text(col), b.Replace(k, a), api.OK, "", 0)
	if lineText(a) != text(col) {
		t.Fatalf("Replace has made %s of %s", lineText(a), text(col))
	}
}

// memory is where the words and elements of something lie.
func memory(of any) map[uintptr]bool {
	seen := map[uintptr]bool{}
	look(reflect.ValueOf(of), seen)
	return seen
}

func look(v reflect.Value, seen map[uintptr]bool) {
	switch v.Kind() {
	case reflect.Slice:
		if v.Cap() > 0 {
			seen[v.Pointer()] = true
		}
		for i := range v.Len() {
			look(v.Index(i), seen)
		}
	case reflect.Struct:
		for i := range v.NumField() {
			look(v.Field(i), seen)
		}
	case reflect.Pointer:
		if !v.IsNil() {
			seen[v.Pointer()] = true
			look(v.Elem(), seen)
		}
	}
}

// apart fails the test, if two of what it is given lie in the same memory.
func apart(t *testing.T, what string, of ...any) {
	t.Helper()
	whose := map[uintptr]int{}
	for i, v := range of {
		for at := range memory(v) {
			if j, taken := whose[at]; taken {
				t.Fatalf("%s: %d and %d share memory", what, j, i)
			}
			whose[at] = i
		}
	}
}

// overwrite puts something else into each element, and behind the last one.
func overwrite(as ...vec.Vec) {
	for _, a := range as {
		for i := range a {
			a[i] = rat.Int(99)
		}
		_ = append(a, rat.Int(100))
	}
}

// dice makes each number from the same start, in each run of the tests.
type dice struct{ *rand.Rand }

func rolled(seed uint64) dice {
	return dice{rand.New(rand.NewPCG(seed, 42))}
}

// row is so many fractions, many of them 0.
func (d dice) row(n int) row {
	broken := 1 + d.Int64N(3)
	all := row{}
	for range n {
		if d.IntN(3) == 0 {
			all = append(all, new(big.Rat))
		} else {
			all = append(all, big.NewRat(d.Int64N(15)-7, 1+d.Int64N(broken)))
		}
	}
	return all
}

// cols are so many columns, which may hang on one another.
func (d dice) cols(n int) []row {
	all := []row{}
	for range n {
		all = append(all, d.row(n))
	}
	if n > 1 && d.IntN(6) == 0 {
		all[d.IntN(n)] = plus(all[d.IntN(n)], big.NewRat(d.Int64N(5)-2, 3), all[d.IntN(n)])
	}
	return all
}

// free are so many columns that don't.
func (d dice) free(n int) []row {
	for {
		if cols := d.cols(n); independent(cols) {
			return cols
		}
	}
}

// other is a column that can replace column k.
func (d dice) other(cols []row, k int) row {
	for {
		if col := d.row(len(cols)); independent(with(cols, k, col)) {
			return col
		}
	}
}

// every has something done with all n columns of some numbers.
func every(n int, vs row, do func(cols []row)) {
	at := make([]int, n*n)
	for {
		do(filled(n, n, func(r, c int) *big.Rat { return vs[at[r*n+c]] }))
		k := 0
		for k < len(at) && at[k] == len(vs)-1 {
			at[k] = 0
			k++
		}
		if k == len(at) {
			return
		}
		at[k]++
	}
}

// band are n columns with 2 from corner to corner, 1 below and -1 far above.
func band(n int) []row {
	return filled(n, n, func(c, r int) *big.Rat {
		switch r - c {
		case 0:
			return big.NewRat(2, 1)
		case 1:
			return big.NewRat(1, 1)
		case -7:
			return big.NewRat(-1, 1)
		}
		return new(big.Rat)
	})
}

// long are columns with numbers of several words.
func long() []row {
	return reads("0 18446744073709551617 2", "36893488147419103235/7 0 1/3", "5 -1/18446744073709551616 0")
}

func TestP141Table(t *testing.T) {
	for _, cols := range [][]row{
		reads(),
		reads("1"), reads("-2/3"), reads("18446744073709551616"),
		reads("1 0", "1 1"), reads("0 1", "1 0"), reads("1 2", "3 4"), reads("1/2 1/4", "1/3 1/5"),
		reads("0 0 1", "1 0 0", "0 1 0"), reads("1 2 3", "2 4 7", "3 7 9"), reads("0 2 0", "0 3 1/2", "5 0 0"),
		long(), one(1), one(2), one(63), one(64), band(63), band(64),
	} {
		holds(t, "New", made(t, cols), cols, 0)
	}
}

func TestP141Nothing(t *testing.T) {
	for _, cols := range [][]vec.Vec{nil, {}} {
		b, err := basis.New(cols...)
		told(t, "New of nothing", err, api.OK, "", 0)
		holds(t, "New of nothing", b, nil, 0)
		if !mat.Same(b.Matrix(), mat.Mat{}) {
			t.Error("the matrix of nothing has", b.Matrix().Rows(), "by", b.Matrix().Cols())
		}
	}
}

func TestP141TooMany(t *testing.T) {
	for _, n := range []int{65, 66, 130} {
		refused(t, one(n), api.ErrSize, "column", 0)
		refused(t, make([]row, n), api.ErrSize, "column", 0)
		refused(t, filled(n, n, func(r, c int) *big.Rat { return new(big.Rat) }), api.ErrSize, "column", 0)
		refused(t, filled(n, 64, func(r, c int) *big.Rat { return big.NewRat(1, 1) }), api.ErrSize, "column", 0)
		// a column that is too short besides, which is not told
		for _, k := range []int{0, 1, 40, 64, n - 1} {
			refused(t, with(one(n), k, numbers(n-1)), api.ErrSize, "column", 0)
			refused(t, with(one(n), k, nil), api.ErrSize, "column", 0)
		}
	}
}

// TestP141Lengths has wrong lengths at each place, alone and with others behind.
func TestP141Lengths(t *testing.T) {
	for _, n := range []int{1, 2, 3, 5, 63, 64} {
		wrong := []int{0, n - 1, n + 1, 2*n + 1}
		for _, k := range []int{0, 1, 2, 3, n / 2, n - 2, n - 1} {
			if k < 0 || k >= n {
				continue
			}
			for i, length := range wrong {
				cols := with(one(n), k, numbers(length))
				refused(t, cols, api.ErrSize, "column", k)
				// behind it several more, and the last one, too
				for j := k + 1; j < n; j += 2 {
					cols[j] = numbers(wrong[(i+j)%len(wrong)])
				}
				refused(t, cols, api.ErrSize, "column", k)
				cols[n-1] = numbers(length)
				refused(t, cols, api.ErrSize, "column", k)
			}
		}
		refused(t, with(one(n), n-1, nil), api.ErrSize, "column", n-1)
		refused(t, make([]row, n), api.ErrSize, "column", 0)
		refused(t, filled(n, n+1, func(r, c int) *big.Rat { return big.NewRat(1, 1) }), api.ErrSize, "column", 0)
		refused(t, filled(n, n-1, func(r, c int) *big.Rat { return new(big.Rat) }), api.ErrSize, "column", 0)
	}
	// a determinant of 0 is asked for only where all lengths fit
	refused(t, reads("0 0 0", "0 0 0", "1 0"), api.ErrSize, "column", 2)
	refused(t, reads("1 0 0", "0 1 0 5", "1 0 0"), api.ErrSize, "column", 1)
	refused(t, reads("1 0 0", "1 0 0"), api.ErrSize, "column", 0)
	refused(t, reads(""), api.ErrSize, "column", 0)
}

func TestP141Singular(t *testing.T) {
	for _, cols := range [][]row{
		// a column of 0: the only one, first, between, last, all
		reads("0"), reads("0 0", "1 2"), reads("1 2", "0 0"), reads("1 2 3", "0 0 0", "1 3 2"), filled(64, 64, func(r, c int) *big.Rat { return new(big.Rat) }),
		// a row of 0
		reads("0 1", "0 2"), reads("1 0 3", "2 0 5", "7 0 1"),
		// equal columns, multiples, sums of others
		reads("1 2", "1 2"), reads("1 2", "2 4"), reads("1 2", "-1/3 -2/3"), reads("1 2 3", "4 5 6", "1 2 3"), reads("1 2 3", "4 5 6", "4 5 6"),
		reads("1 2 3", "4 5 6", "5 7 9"), reads("1 2 3", "4 5 6", "7 8 9"), reads("1/2 1/3 1/5", "1 1 1", "-1/4 -1/3 -2/5"),
		reads("18446744073709551616 1", "340282366920938463463374607431768211456 18446744073709551616"),
		with(one(64), 63, one(64)[0]), with(one(64), 0, noughts(64)), with(band(64), 63, sum(numbers(63), band(64)[:63])), with(band(63), 5, plus(band(63)[0], big.NewRat(-1, 2), band(63)[62])),
	} {
		refused(t, cols, api.ErrSingular, "", 0)
	}
}

// TestP141Every is of all small columns of a few numbers, and of many greater ones.
func TestP141Every(t *testing.T) {
	do := func(cols []row) {
		if independent(cols) {
			holds(t, "New", made(t, cols), cols, 0)
			return
		}
		refused(t, cols, api.ErrSingular, "", 0)
	}
	every(1, read("0 1 -1 2 -3/4"), do)
	every(2, read("0 1 -1 2 -1/2"), do)
	every(3, read("0 1"), do)
	d := rolled(1)
	for n := range 8 {
		for range 40 {
			do(d.cols(n))
		}
	}
}

func TestP142Table(t *testing.T) {
	for _, c := range []struct {
		cols    []row
		v, x, y string
	}{
		{reads("1 0", "1 1"), "3 2", "1 2", "3 -1"},
		{reads(), "", "", ""},
		{reads("2"), "3", "3/2", "3/2"},
		{reads("-2/3"), "0", "0", "0"},
		{reads("0 3", "2 4"), "2 7", "1 1", "13/6 2/3"},
		{reads("1 3", "2 4"), "5 11", "1 2", "13/2 -1/2"},
		{reads("1 3", "2 4"), "0 0", "0 0", "0 0"},
		{reads("0 0 1", "1 0 0", "0 1 0"), "7 8 9", "9 7 8", "8 9 7"},
		{reads("1/2 1/4", "1/3 1/5"), "1 1", "-8 15", "-3 10"},
		{reads("18446744073709551616 1", "0 1"), "1 0", "1/18446744073709551616 -1/18446744073709551616", "1/18446744073709551616 0"},
	} {
		for _, b := range []*basis.Basis{made(t, c.cols), detour(t, c.cols)} {
			x, ok := b.Solve(line(read(c.v)))
			if !ok || lineText(x) != text(read(c.x)) {
				t.Errorf("Solve of %s and %s is %s, %t; want %s", texts(c.cols), c.v, lineText(x), ok, c.x)
			}
			y, ok := b.SolveT(line(read(c.v)))
			if !ok || lineText(y) != text(read(c.y)) {
				t.Errorf("SolveT of %s and %s is %s, %t; want %s", texts(c.cols), c.v, lineText(y), ok, c.y)
			}
		}
	}
}

// TestP142Lengths hands in too little and too much, of 0 and of other numbers.
func TestP142Lengths(t *testing.T) {
	for _, n := range []int{0, 1, 2, 3, 63, 64} {
		for _, b := range []*basis.Basis{made(t, one(n)), detour(t, one(min(n, 8)))} {
			for _, length := range []int{0, 1, 2, 3, 4, 7, 8, 9, 62, 63, 64, 65, 130} {
				for _, v := range []vec.Vec{make(vec.Vec, length), line(numbers(length))} {
					fits(t, b, v)
				}
			}
			fits(t, b, nil)
		}
	}
}

// fits fails the test, if Solve and SolveT answer other lengths than that of b, or not that one.
func fits(t *testing.T, b *basis.Basis, v vec.Vec) {
	t.Helper()
	was := lineText(v)
	x, ok := b.Solve(v)
	y, okT := b.SolveT(v)
	if want := len(v) == b.Size(); ok != want || okT != want {
		t.Errorf("%d columns and %d elements: Solve %t, SolveT %t", b.Size(), len(v), ok, okT)
	}
	if !ok && (len(x) != 0 || len(y) != 0) {
		t.Errorf("%d columns and %d elements: false, and yet %s and %s", b.Size(), len(v), lineText(x), lineText(y))
	}
	if ok && (len(x) != len(v) || len(y) != len(v)) {
		t.Errorf("%d columns and %d elements: %d and %d of them", b.Size(), len(v), len(x), len(y))
	}
	if lineText(v) != was {
		t.Errorf("%s has become %s", was, lineText(v))
	}
}

// TestP142Inverse has the units solved for: the inverse comes of it, by its
// columns and by its rows.
func TestP142Inverse(t *testing.T) {
	d := rolled(2)
	for range 60 {
		n := 1 + d.IntN(6)
		cols := d.free(n)
		b := detour(t, cols)
		var columns, rows []row
		for k := range n {
			unit, _ := vec.Unit(n, k)
			x, _ := b.Solve(unit)
			y, _ := b.SolveT(unit)
			columns, rows = append(columns, back(x)), append(rows, back(y))
		}
		if texts(turned(columns)) != texts(rows) {
			t.Fatalf("the inverse of %s is %s by its columns turned, and %s by its rows", texts(cols), texts(turned(columns)), texts(rows))
		}
		for k, y := range rows {
			if text(dots(cols, y)) != text(one(n)[k]) {
				t.Fatalf("row %d of the inverse of %s is %s", k, texts(cols), text(y))
			}
		}
	}
}

// detour is the basis of some columns made of others by replacements.
func detour(t *testing.T, cols []row) *basis.Basis {
	t.Helper()
	other := slices.Clone(cols)
	for k, col := range cols {
		other[k] = plus(col, big.NewRat(int64(k+1), 2), col)
	}
	b := made(t, other)
	for k, col := range cols {
		replaced(t, b, k, col)
	}
	return b
}

// TestP143Walk has columns replaced and asks after each what a new basis tells.
func TestP143Walk(t *testing.T) {
	d := rolled(3)
	for range 30 {
		n := 1 + d.IntN(6)
		cols := d.free(n)
		b := made(t, cols)
		for i := range 30 {
			k := d.IntN(n)
			col := d.other(cols, k)
			cols = with(cols, k, col)
			replaced(t, b, k, col)
			holds(t, "Replace", b, cols, (i+1)%9)
			alike(t, b, made(t, cols))
		}
	}
}

// alike fails the test, if two bases tell different solutions.
func alike(t *testing.T, a, b *basis.Basis) {
	t.Helper()
	for _, v := range rights(a.Size()) {
		x, _ := a.Solve(line(v))
		z, _ := b.Solve(line(v))
		if lineText(x) != lineText(z) {
			t.Fatalf("Solve of %s is %s, and of the same columns %s", text(v), lineText(x), lineText(z))
		}
		x, _ = a.SolveT(line(v))
		z, _ = b.SolveT(line(v))
		if lineText(x) != lineText(z) {
			t.Fatalf("SolveT of %s is %s, and of the same columns %s", text(v), lineText(x), lineText(z))
		}
	}
	if !mat.Same(a.Matrix(), b.Matrix()) {
		t.Fatal("the matrices of the same columns differ")
	}
}

// TestP143One replaces one column again and again, TestP143Turns all in turn.
func TestP143One(t *testing.T) {
	for n := 1; n <= 4; n++ {
		for k := range n {
			cols := one(n)
			b := made(t, cols)
			for i := range 40 {
				col := plus(numbers(n), big.NewRat(int64(i+100), 3), one(n)[k])
				cols = with(cols, k, col)
				replaced(t, b, k, col)
				holds(t, "Replace", b, cols, (i+1)%9)
			}
		}
	}
}

func TestP143Turns(t *testing.T) {
	d := rolled(4)
	for _, n := range []int{1, 2, 3, 5, 8, 9, 10} {
		cols := d.free(n)
		b := made(t, cols)
		for i := range 30 {
			k := i % n
			col := d.other(cols, k)
			cols = with(cols, k, col)
			replaced(t, b, k, col)
			holds(t, "Replace", b, cols, (i+1)%9)
		}
	}
}

// TestP143Itself replaces columns by themselves: that counts, too.
func TestP143Itself(t *testing.T) {
	for _, cols := range [][]row{reads("5"), reads("1 0", "1 1"), reads("0 0 1", "1 0 0", "0 1 0"), long(), one(64)} {
		b := made(t, cols)
		for i := range 20 {
			k := i % len(cols)
			col, _ := b.Column(k)
			told(t, "Replace by itself", b.Replace(k, col), api.OK, "", 0)
			holds(t, "Replace by itself", b, cols, (i+1)%9)
			apart(t, "a column and its basis", b, col)
		}
	}
}

// TestP143Swapped has two columns change places, where a third one must be
// there for a while: the same column twice is no basis.
func TestP143Swapped(t *testing.T) {
	cols := reads("1 2 3", "2 4 7", "3 7 9")
	b := made(t, cols)
	told(t, "Replace", b.Replace(0, line(cols[2])), api.ErrSingular, "column", 0)
	replaced(t, b, 0, plus(cols[0], big.NewRat(1, 1), cols[2]))
	replaced(t, b, 2, cols[0])
	replaced(t, b, 0, cols[2])
	holds(t, "Replace", b, []row{cols[2], cols[1], cols[0]}, 3)
}

// TestP143Great is of as many columns as there may be.
func TestP143Great(t *testing.T) {
	d := rolled(5)
	cols := band(64)
	b := made(t, cols)
	for i := range 20 {
		k := (i * 37) % 64
		col := plus(cols[(k+1)%64], big.NewRat(1+d.Int64N(2), 1+d.Int64N(2)), cols[k])
		for range 3 {
			col = plus(col, big.NewRat(d.Int64N(5)-2, 1+d.Int64N(2)), cols[(k+1+d.IntN(63))%64])
		}
		cols = with(cols, k, col)
		replaced(t, b, k, col)
		shown(t, "Replace", b, cols, (i+1)%9)
		solves(t, "Replace", b, cols, numbers(64))
		told(t, "Replace", b.Replace(64, line(col)), api.ErrArg, "column", 64)
		told(t, "Replace", b.Replace(63, line(sum(numbers(63), cols[:63]))), api.ErrSingular, "column", 63)
		told(t, "Replace", b.Replace(0, line(numbers(65))), api.ErrSize, "column", 0)
	}
	shown(t, "Replace", b, cols, 2)
	solves(t, "Replace", b, cols, numbers(64))
}

// TestP143Refused has each error behind any number of replacements, with all
// that is told behind each of them as it was, and the next replacement done.
func TestP143Refused(t *testing.T) {
	d := rolled(6)
	for n := 1; n <= 4; n++ {
		for behind := range 21 {
			cols := d.free(n)
			b := made(t, cols)
			for i := range behind {
				col := d.other(cols, i%n)
				cols = with(cols, i%n, col)
				replaced(t, b, i%n, col)
			}
			refuses(t, b, cols, behind%9)
			k := d.IntN(n)
			col := d.other(cols, k)
			replaced(t, b, k, col)
			holds(t, "Replace behind errors", b, with(cols, k, col), (behind+1)%9)
		}
	}
}

// refuses fails the test, if a replacement that may not be is not refused with
// its error, or changes something.
func refuses(t *testing.T, b *basis.Basis, cols []row, etas int) {
	t.Helper()
	n := len(cols)
	try := func(k int, col row, number api.Errno) {
		a := line(col)
		told(t, "Replace of "+strconv.Itoa(k)+" by "+text(col), b.Replace(k, a), number, "column", k)
		if lineText(a) != text(col) {
			t.Fatalf("Replace has made %s of %s", lineText(a), text(col))
		}
		shown(t, "Replace, refused", b, cols, etas)
	}
	for _, k := range []int{-1, n, n + 1, -n, -n - 1, 64, math.MinInt, math.MaxInt} {
		for _, length := range []int{n, 0, n - 1, n + 1} {
			if k < 0 || k >= n {
				try(k, numbers(length), api.ErrArg)
				try(k, noughts(length), api.ErrArg)
			}
		}
		told(t, "Replace by nil", b.Replace(n, nil), api.ErrArg, "column", n)
	}
	for k := range n {
		for _, length := range []int{0, n - 1, n + 1, 2*n + 3, 64, 65} {
			try(k, numbers(length), api.ErrSize)
			try(k, noughts(length), api.ErrSize)
		}
		told(t, "Replace by nil", b.Replace(k, nil), api.ErrSize, "column", k)
		try(k, noughts(n), api.ErrSingular)
		for j, col := range cols {
			if j != k {
				try(k, col, api.ErrSingular)
				try(k, plus(col, big.NewRat(-5, 3), col), api.ErrSingular)
			}
		}
		try(k, sum(without(numbers(n), k), cols), api.ErrSingular)
	}
	holds(t, "Replace, refused", b, cols, etas)
}

// TestP143Nothing has no columns, of which none can be replaced.
func TestP143Nothing(t *testing.T) {
	b := made(t, nil)
	for _, k := range []int{0, -1, 1, 64, math.MinInt, math.MaxInt} {
		for _, col := range []vec.Vec{nil, {}, vec.Of(1), vec.Of(0, 0)} {
			told(t, "Replace in nothing", b.Replace(k, col), api.ErrArg, "column", k)
		}
	}
	holds(t, "Replace in nothing", b, nil, 0)
}

func TestP144Grow(t *testing.T) {
	for _, c := range []struct {
		cols   []row
		r, col string
	}{
		{reads("1 0", "1 1"), "0 0", "7 7 2"},
		{reads(), "", "5"},
		{reads(), "", "-1/3"},
		{reads("2"), "3", "5 7"},
		{reads("2"), "0", "0 1"},
		{reads("0 1", "1 0"), "1/2 -1", "0 0 3"},
		{reads("0 1", "1 0"), "1 2", "3 4 0"},
		{long(), "1 -18446744073709551617 1/7", "0 0 0 18446744073709551616"},
	} {
		for _, b := range []*basis.Basis{made(t, c.cols), detour(t, c.cols)} {
			etas := b.Etas()
			r, col := line(read(c.r)), line(read(c.col))
			own, err := b.Grow(r, col)
			told(t, "Grow of "+texts(c.cols), err, api.OK, "", 0)
			holds(t, "Grow", own, grown(c.cols, read(c.r), read(c.col)), 0)
			holds(t, "Grow", b, c.cols, etas)
			if lineText(r) != text(read(c.r)) || lineText(col) != text(read(c.col)) {
				t.Errorf("Grow has made %s and %s of %s and %s", lineText(r), lineText(col), c.r, c.col)
			}
			apart(t, "Grow", b, own, r, col)
		}
	}
}

// notGrown fails the test, if Grow does not tell an error of this number.
func notGrown(t *testing.T, b *basis.Basis, cols []row, r, col vec.Vec, number api.Errno) {
	t.Helper()
	wasR, wasCol, etas := lineText(r), lineText(col), b.Etas()
	own, err := b.Grow(r, col)
	told(t, "Grow by "+wasR+wasCol, err, number, "", 0)
	if own != nil || lineText(r) != wasR || lineText(col) != wasCol {
		t.Fatalf("Grow by %s%s: an error, and yet a basis, or what was handed in is changed", wasR, wasCol)
	}
	if len(cols) < 10 {
		holds(t, "Grow, refused", b, cols, etas)
	}
}

func TestP144GrowLengths(t *testing.T) {
	for _, n := range []int{0, 1, 2, 3, 8, 62, 63} {
		b := made(t, one(n))
		lengths := []int{0, 1, n - 1, n, n + 1, n + 2, 2*n + 1, 63, 64, 65}
		for _, r := range lengths {
			for _, col := range lengths {
				if r >= 0 && col >= 0 && (r != n || col != n+1) {
					notGrown(t, b, one(n), line(numbers(r)), line(numbers(col)), api.ErrSize)
					// of 0, the determinant would be 0, too
					notGrown(t, b, one(n), line(noughts(r)), line(noughts(col)), api.ErrSize)
				}
			}
		}
		notGrown(t, b, one(n), line(numbers(n)), nil, api.ErrSize)
		notGrown(t, b, one(n), nil, nil, api.ErrSize)
		if n > 0 {
			notGrown(t, b, one(n), nil, line(numbers(n+1)), api.ErrSize)
		}
		holds(t, "Grow, refused", b, one(n), 0)
	}
}

// TestP144GrowFull is about the most columns.
func TestP144GrowFull(t *testing.T) {
	for _, cols := range [][]row{one(63), band(63)} {
		b, r, col := made(t, cols), numbers(63), plus(noughts(64), big.NewRat(3, 1), one(64)[63])
		own, err := b.Grow(line(r), line(col))
		told(t, "Grow at 63", err, api.OK, "", 0)
		holds(t, "Grow at 63", own, grown(cols, r, col), 0)
		notGrown(t, b, cols, line(r), line(noughts(64)), api.ErrSingular)
		for _, length := range []int{63, 64, 65} {
			for _, col := range []row{noughts(65), numbers(65), one(65)[64], noughts(64), numbers(64)} {
				notGrown(t, own, grown(cols, r, plus(noughts(64), big.NewRat(3, 1), one(64)[63])), line(numbers(length)), line(col), api.ErrSize)
			}
		}
		holds(t, "Grow at 64", own, grown(cols, r, col), 0)
	}
}

func TestP144GrowSingular(t *testing.T) {
	for _, c := range []struct {
		cols   []row
		r, col string
	}{
		{reads(), "", "0"},
		{reads("2"), "3", "2 3"},
		{reads("2"), "3", "0 0"},
		{reads("2"), "0", "5 0"},
		{reads("1 0", "1 1"), "0 0", "7 7 0"},
		{reads("1 0", "1 1"), "5 -1/2", "1 1 -1/2"},
		{reads("1 0", "1 1"), "5 -1/2", "2 1 9/2"},
		{long(), "0 0 0", "1 2 3 0"},
	} {
		notGrown(t, made(t, c.cols), c.cols, line(read(c.r)), line(read(c.col)), api.ErrSingular)
		notGrown(t, detour(t, c.cols), c.cols, line(read(c.r)), line(read(c.col)), api.ErrSingular)
	}
}

func TestP144Shrink(t *testing.T) {
	for _, cols := range [][]row{
		reads("7"), reads("1 0", "1 1"), reads("1 2", "3 4"), reads("0 1", "1 0"), reads("1 0 7", "0 1 7", "0 0 2"), reads("1 2 3", "2 4 7", "3 7 9"), long(), one(4), band(8),
	} {
		for _, b := range []*basis.Basis{made(t, cols), detour(t, cols)} {
			etas := b.Etas()
			for r := range cols {
				for c := range cols {
					own, err := b.Shrink(r, c)
					left := shrunk(cols, r, c)
					if independent(left) {
						told(t, "Shrink of "+texts(cols), err, api.OK, "", 0)
						holds(t, "Shrink", own, left, 0)
						apart(t, "Shrink", b, own)
					} else if told(t, "Shrink of "+texts(cols), err, api.ErrSingular, "", 0); own != nil {
						t.Errorf("Shrink of %s: an error, and yet a basis", texts(cols))
					}
				}
			}
			holds(t, "Shrink", b, cols, etas)
		}
	}
}

func TestP144ShrinkNone(t *testing.T) {
	for _, n := range []int{0, 1, 2, 3, 64} {
		cols := one(n)
		b := made(t, cols)
		for _, r := range []int{0, n - 1, n, n + 1, -1, -n - 1, 64, math.MinInt, math.MaxInt} {
			for _, c := range []int{0, n - 1, n, n + 1, -1, -n - 1, 64, math.MinInt, math.MaxInt} {
				if 0 <= r && r < n && 0 <= c && c < n {
					continue
				}
				own, err := b.Shrink(r, c)
				told(t, "Shrink of "+strconv.Itoa(n)+" at "+strconv.Itoa(r)+", "+strconv.Itoa(c), err, api.ErrArg, "", 0)
				if own != nil {
					t.Errorf("Shrink of %d at %d, %d: an error, and yet a basis", n, r, c)
				}
			}
		}
		holds(t, "Shrink, refused", b, cols, 0)
	}
}

// TestP144ShrinkGreat takes rows and columns off till none is left.
func TestP144ShrinkGreat(t *testing.T) {
	cols := band(64)
	b := made(t, cols)
	for len(cols) > 0 {
		n := len(cols)
		own, err := b.Shrink(n-1, n-1)
		told(t, "Shrink", err, api.OK, "", 0)
		if cols = shrunk(cols, n-1, n-1); n%13 == 0 || n < 3 {
			holds(t, "Shrink", own, cols, 0)
		}
		b = own
	}
	shown(t, "Shrink to nothing", b, nil, 0)
}

// TestP144Copy changes a basis and its copy, behind any number of replacements.
func TestP144Copy(t *testing.T) {
	d := rolled(7)
	for n := range 5 {
		for behind := range 19 {
			if n == 0 && behind > 0 {
				continue
			}
			cols := d.free(n)
			b := made(t, cols)
			for i := range behind {
				col := d.other(cols, i%n)
				cols = with(cols, i%n, col)
				replaced(t, b, i%n, col)
			}
			own := b.Copy()
			apart(t, "Copy", b, own)
			holds(t, "Copy", own, cols, behind%9)
			holds(t, "a basis with a copy", b, cols, behind%9)
			if n == 0 {
				continue
			}
			was := cols
			for i := range 10 {
				k := d.IntN(n)
				col := d.other(cols, k)
				cols = with(cols, k, col)
				first, second := own, b
				if behind%2 == 0 {
					first, second = b, own
				}
				replaced(t, first, k, col)
				holds(t, "one of both", first, cols, (behind+i+1)%9)
				holds(t, "the other of both", second, was, behind%9)
				apart(t, "one of both and the other", b, own, first.Copy())
				if i == 0 {
					refuses(t, second, was, behind%9)
				}
			}
		}
	}
}

// kept is a basis with what it is to tell.
type kept struct {
	b    *basis.Basis
	cols []row
	etas int
}

// step replaces a column of one, or makes another one of it; false, if it makes none.
func (d dice) step(t *testing.T, one *kept) (kept, bool) {
	t.Helper()
	n := len(one.cols)
	switch turn := d.IntN(10); {
	case turn == 0:
		return kept{one.b.Copy(), one.cols, one.etas}, true
	case turn == 1 && n < 6:
		r, col := d.row(n), d.row(n+1)
		own, err := one.b.Grow(line(r), line(col))
		return judged(t, "Grow", own, err, grown(one.cols, r, col), "", 0)
	case turn == 2 && n > 1:
		r, c := d.IntN(n), d.IntN(n)
		own, err := one.b.Shrink(r, c)
		return judged(t, "Shrink", own, err, shrunk(one.cols, r, c), "", 0)
	case n > 0:
		k := d.IntN(n)
		col := d.row(n)
		err := one.b.Replace(k, line(col))
		if same, ok := judged(t, "Replace", one.b, err, with(one.cols, k, col), "column", k); ok {
			one.cols, one.etas = same.cols, (one.etas+1)%9
		}
	}
	return kept{}, false
}

// judged is a basis that should be that of some columns; false, and looked at
// the error, if there is none.
func judged(t *testing.T, what string, b *basis.Basis, err error, cols []row, where string, at int) (kept, bool) {
	t.Helper()
	if !independent(cols) {
		told(t, what+" to "+texts(cols), err, api.ErrSingular, where, at)
		return kept{}, false
	}
	told(t, what+" to "+texts(cols), err, api.OK, "", 0)
	return kept{b, cols, 0}, true
}

// TestP144Walk has several bases changed, copied, grown and shrunk, one behind
// the other, and looks at all of them after each step.
func TestP144Walk(t *testing.T) {
	d := rolled(8)
	for range 12 {
		cols := d.free(1 + d.IntN(4))
		all := []kept{{made(t, cols), cols, 0}}
		for range 80 {
			if more, ok := d.step(t, &all[d.IntN(len(all))]); ok {
				all = append(all, more)
			}
			if len(all) > 4 {
				all = slices.Delete(all, 0, 1)
			}
			var bases []any
			for _, one := range all {
				holds(t, "one of several", one.b, one.cols, one.etas)
				bases = append(bases, one.b)
			}
			apart(t, "several", bases...)
		}
	}
}

// TestP144Made changes what Grow and Shrink have made, and what they have made it of.
func TestP144Made(t *testing.T) {
	cols := reads("1 2 3", "2 4 7", "3 7 9")
	b := detour(t, cols)
	more, _ := b.Grow(vec.Of(1, 0, 0), vec.Of(0, 0, 0, 5))
	less, _ := b.Shrink(2, 1)
	moreCols, lessCols := grown(cols, read("1 0 0"), read("0 0 0 5")), shrunk(cols, 2, 1)
	apart(t, "three bases", b, more, less)
	for i := range 10 {
		col := read(strconv.Itoa(i) + " 1 1/2")
		replaced(t, b, 0, col)
		holds(t, "changed", b, with(cols, 0, col), (3+i+1)%9)
		holds(t, "grown", more, moreCols, 0)
		holds(t, "shrunk", less, lessCols, 0)
	}
	cols = with(cols, 0, read("9 1 1/2"))
	for i := range 10 {
		replaced(t, more, 3, append(noughts(3), big.NewRat(int64(i+1), 1)))
		replaced(t, less, 1, plus(lessCols[1], big.NewRat(int64(i+1), 1), lessCols[1]))
		holds(t, "what more and less are made of", b, cols, 4)
	}
	holds(t, "grown, changed", more, with(moreCols, 3, read("0 0 0 10")), 1)
	holds(t, "shrunk, changed", less, with(lessCols, 1, plus(lessCols[1], big.NewRat(10, 1), lessCols[1])), 1)
}

// TestP141Apart changes what New was given.
func TestP141Apart(t *testing.T) {
	as := lines(long())
	b, _ := basis.New(as...)
	apart(t, "a basis and its columns", b, as)
	overwrite(as...)
	as[0], as[1] = nil, vec.Of(1)
	holds(t, "New, with its columns overwritten", b, long(), 0)
}

// TestP143Apart changes what Replace was given, and what it was refused with.
func TestP143Apart(t *testing.T) {
	b, cols := made(t, long()), long()
	for i := range 20 {
		k := i % 3
		cols[k] = plus(long()[k], big.NewRat(int64(i+1), 7), long()[k])
		all := line(append(slices.Clone(cols[k]), big.NewRat(77, 1)))
		col := all[:3]
		told(t, "Replace", b.Replace(k, col), api.OK, "", 0)
		if lineText(all) != text(append(slices.Clone(cols[k]), big.NewRat(77, 1))) {
			t.Errorf("Replace has made %s of what it was given", lineText(all))
		}
		apart(t, "a basis and its new column", b, all)
		overwrite(all)
		holds(t, "Replace, with its column overwritten", b, cols, (i+1)%9)
		other := line(cols[(k+1)%3])
		told(t, "Replace", b.Replace(k, other), api.ErrSingular, "column", k)
		apart(t, "a basis and what is no column of it", b, other)
		overwrite(other)
		holds(t, "Replace, refused", b, cols, (i+1)%9)
	}
}

// TestP144Apart changes what Grow was given.
func TestP144Apart(t *testing.T) {
	r, col := line(read("1 2/3 18446744073709551616")), line(read("0 0 1/18446744073709551617 36893488147419103235"))
	own, _ := made(t, long()).Grow(r, col)
	overwrite(r, col)
	holds(t, "Grow, with its row and column overwritten", own, grown(long(), read("1 2/3 18446744073709551616"), read("0 0 1/18446744073709551617 36893488147419103235")), 0)
}

// TestP142ResultsAreNew changes what is returned, and asks again.
func TestP142ResultsAreNew(t *testing.T) {
	for _, b := range []*basis.Basis{made(t, long()), detour(t, long())} {
		etas := b.Etas()
		for k := range 3 {
			unit, _ := vec.Unit(3, k)
			all := line(read("36893488147419103235/7 -5 1/3 77"))
			v := all[:3]
			a, _ := b.Column(k)
			again, _ := b.Column(k)
			x, _ := b.Solve(v)
			y, _ := b.SolveT(v)
			other, _ := b.Solve(v)
			otherT, _ := b.SolveT(v)
			ofUnit, _ := b.Solve(unit)
			ofUnitT, _ := b.SolveT(unit)
			m, m2 := b.Matrix(), b.Matrix()
			apart(t, "what is returned", b, all, a, again, x, y, other, otherT, unit, ofUnit, ofUnitT, m, m2)
			if lineText(all) != text(read("36893488147419103235/7 -5 1/3 77")) {
				t.Error("what was handed in has become", lineText(all))
			}
			was := lineText(other) + lineText(otherT) + lineText(again)
			overwrite(a, x, y, all, unit, ofUnit, ofUnitT)
			if now := lineText(other) + lineText(otherT) + lineText(again); now != was {
				t.Errorf("%s has become %s", was, now)
			}
			holds(t, "results overwritten", b, long(), etas)
		}
	}
}

func TestP141Examples(t *testing.T) {
	b, err := basis.New(vec.Of(1, 0), vec.Of(1, 1))
	told(t, "New", err, api.OK, "", 0)
	if x, ok := b.Solve(vec.Of(3, 2)); !ok || !vec.Same(x, vec.Of(1, 2)) {
		t.Error("Solve is", lineText(x), ok)
	}
	if y, ok := b.SolveT(vec.Of(3, 2)); !ok || !vec.Same(y, vec.Of(3, -1)) {
		t.Error("SolveT is", lineText(y), ok)
	}
	told(t, "Replace", b.Replace(0, vec.Of(2, 2)), api.ErrSingular, "column", 0)
	told(t, "Replace", b.Replace(0, vec.Of(0, 5)), api.OK, "", 0)
	if b.Etas() != 1 {
		t.Error("Etas is", b.Etas())
	}
	if x, ok := b.Solve(vec.Of(1, 6)); !ok || !vec.Same(x, vec.Of(1, 1)) {
		t.Error("Solve is", lineText(x), ok)
	}
	own, err := b.Grow(vec.Of(0, 0), vec.Of(7, 7, 2))
	told(t, "Grow", err, api.OK, "", 0)
	if own.Size() != 3 {
		t.Error("Size is", own.Size())
	}
}
