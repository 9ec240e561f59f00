package prob_test

import (
	"errors"
	"math"
	"math/big"
	"math/rand/v2"
	"reflect"
	"slices"
	"strconv"
	"strings"
	"testing"

	"actuary/api"
	"actuary/mat"
	"actuary/pack"
	"actuary/prob"
	"actuary/rat"
	"actuary/vec"
)

// row is some fractions, as math/big has them.
type row = []*big.Rat

// bond is a row of a problem of these.
type bond struct {
	coef row
	kind api.Kind
	rhs  *big.Rat
}

// task is a problem of these.
type task struct {
	cost  row
	bonds []bond
}

// kinds are all there are; strangers are none.
var (
	kinds     = []api.Kind{api.Le, api.Ge, api.Eq}
	strangers = []api.Kind{0, -1, 4, 5, math.MinInt, math.MaxInt}
	signs     = []string{"?", "<=", ">=", "="}
)

// fraction is that of a text.
func fraction(s string) *big.Rat {
	v, ok := new(big.Rat).SetString(s)
	if !ok {
		panic(s)
	}
	return v
}

// read is the fractions of a text.
func read(s string) row {
	all := row{}
	for _, word := range strings.Fields(s) {
		all = append(all, fraction(word))
	}
	return all
}

// bound is the bond of a text: "1 2 >= 4".
func bound(s string) bond {
	for k, sign := range signs {
		if before, after, ok := strings.Cut(" "+s, " "+sign+" "); ok {
			return bond{read(before), api.Kind(k), fraction(after)}
		}
	}
	panic(s)
}

// set is the task of a text: "1 1; 1 2 >= 4; 3 1 <= 9".
func set(s string) task {
	parts := strings.Split(s, ";")
	p := task{cost: read(parts[0])}
	for _, part := range parts[1:] {
		p.bonds = append(p.bonds, bound(strings.TrimSpace(part)))
	}
	return p
}

// of is the Rat of a fraction.
func of(v *big.Rat) rat.Rat {
	a, err := pack.Read(v.RatString())
	if err != nil {
		panic(v)
	}
	return a
}

// line is the Vec of some.
func line(vs row) vec.Vec {
	var a vec.Vec
	for _, v := range vs {
		a = append(a, of(v))
	}
	return a
}

// posed is the Prob of a task.
func posed(p task) prob.Prob {
	q := prob.Prob{Cost: line(p.cost)}
	for _, b := range p.bonds {
		q.Rows = append(q.Rows, prob.Row{Coef: line(b.coef), Kind: b.kind, Rhs: of(b.rhs)})
	}
	return q
}

// text is fractions in words; lineText is that of a Vec, ratText that of one.
func text(vs row) string {
	s := "["
	for _, v := range vs {
		s += " " + v.RatString()
	}
	return s + " ]"
}

func lineText(a vec.Vec) string {
	s := "["
	for _, x := range a {
		s += " " + pack.Text(x)
	}
	return s + " ]"
}

func ratText(a rat.Rat) string {
	return pack.Text(a)
}

// taskText is a task in words; probText a Prob.
func taskText(p task) string {
	s := text(p.cost)
	for _, b := range p.bonds {
		s += "; " + text(b.coef) + " " + strconv.Itoa(int(b.kind)) + " " + b.rhs.RatString()
	}
	return s
}

func probText(p prob.Prob) string {
	s := lineText(p.Cost)
	for _, r := range p.Rows {
		s += "; " + lineText(r.Coef) + " " + strconv.Itoa(int(r.Kind)) + " " + ratText(r.Rhs)
	}
	return s
}

// stdText is a Std in words.
func stdText(s prob.Std) string {
	words := "A " + strconv.Itoa(s.A.Rows()) + " by " + strconv.Itoa(s.A.Cols()) + ":"
	for k := range s.A.Rows() {
		r, _ := s.A.Row(k)
		words += " " + lineText(r)
	}
	words += "; B " + lineText(s.B) + "; C " + lineText(s.C) + "; Own " + strconv.Itoa(s.Own) + "; Left"
	for _, c := range s.Left {
		words += " " + strconv.Itoa(c)
	}
	return words
}

// dot is the sum of the products of both.
func dot(a, b row) *big.Rat {
	sum := new(big.Rat)
	for i, v := range a {
		sum.Add(sum, new(big.Rat).Mul(v, b[i]))
	}
	return sum
}

// over is how much the bond's sum is above what it is held against.
func (b bond) over(x row) *big.Rat {
	return new(big.Rat).Sub(dot(b.coef, x), b.rhs)
}

// holds tells whether the bond lets x be.
func (b bond) holds(x row) bool {
	if len(x) != len(b.coef) {
		return false
	}
	sign := b.over(x).Sign()
	return b.kind == api.Le && sign != 1 || b.kind == api.Ge && sign != -1 || b.kind == api.Eq && sign == 0
}

// fits tells whether all bonds do, and none of x is below 0.
func (p task) fits(x row) bool {
	below := func(v *big.Rat) bool { return v.Sign() < 0 }
	loose := func(b bond) bool { return !b.holds(x) }
	return len(x) == len(p.cost) && !slices.ContainsFunc(x, below) && !slices.ContainsFunc(p.bonds, loose)
}

// lifted is x with what each bond that is no equation leaves.
func (p task) lifted(x row) row {
	z := slices.Clone(x)
	for _, b := range p.bonds {
		switch b.kind {
		case api.Le:
			z = append(z, new(big.Rat).Neg(b.over(x)))
		case api.Ge:
			z = append(z, b.over(x))
		}
	}
	return z
}

// filled are n fractions that v tells.
func filled(n int, v func(i int) *big.Rat) row {
	all := row{}
	for i := range n {
		all = append(all, v(i))
	}
	return all
}

// noughts are n of 0; numbers n that differ.
func noughts(n int) row {
	return filled(n, func(i int) *big.Rat { return new(big.Rat) })
}

func numbers(n int) row {
	return filled(n, func(i int) *big.Rat { return big.NewRat(int64(3*i-40), int64(7+i%2)) })
}

// sized is a task of so many numbers and bonds, with nothing wrong but perhaps these.
func sized(cols, rows int) task {
	p := task{cost: numbers(cols)}
	for k := range rows {
		p.bonds = append(p.bonds, bond{numbers(cols), kinds[k%3], big.NewRat(int64(k-5), 3)})
	}
	return p
}

// dice makes each number from the same start, in each run of the tests.
type dice struct{ *rand.Rand }

func rolled(seed uint64) dice {
	return dice{rand.New(rand.NewPCG(seed, 42))}
}

// row is so many fractions, many of them 0.
func (d dice) row(n int) row {
	broken := 1 + d.Int64N(3)
	return filled(n, func(i int) *big.Rat {
		if d.IntN(3) == 0 {
			return new(big.Rat)
		}
		return big.NewRat(d.Int64N(15)-7, 1+d.Int64N(broken))
	})
}

// sizes is such a row without what is below 0.
func (d dice) sizes(n int) row {
	x := d.row(n)
	for _, v := range x {
		v.Abs(v)
	}
	return x
}

// near is a fraction, or a little less or more.
func (d dice) near(v *big.Rat) *big.Rat {
	little := big.NewRat(d.Int64N(3)-1, 1<<40)
	return little.Add(little, v)
}

// task is one whose bonds x keeps, or nearly keeps.
func (d dice) task(rows int, x row) task {
	p := task{cost: d.row(len(x))}
	for range rows {
		b := bond{coef: d.row(len(x)), kind: kinds[d.IntN(3)]}
		b.rhs = d.near(dot(b.coef, x))
		p.bonds = append(p.bonds, b)
	}
	return p
}

// long is a task with numbers of several words.
func long() task {
	return set("36893488147419103235/7 -1/18446744073709551617; " +
		"0 18446744073709551617 <= 36893488147419103235/7; " +
		"5 -1/18446744073709551616 >= 1/18446744073709551617; " +
		"340282366920938463463374607431768211457 1/3 = 18446744073709551629/3; " +
		"-1/36893488147419103235 2 <= -36893488147419103235")
}

// told fails the test, if an error is not of this number at this place; "": at none.
func told(t *testing.T, what string, err error, number api.Errno, where string, at int) {
	t.Helper()
	w, k, is := api.Place(err)
	if (err == nil) != (number == api.OK) || api.Number(err) != number || is != (where != "") || w != where || k != at {
		t.Fatalf("%s: %v, of number %d at %q %d, %t; want %d at %q %d", what, err, api.Number(err), w, k, is, number, where, at)
	}
	if number != api.OK && !errors.Is(err, number) {
		t.Fatalf("%s: %v is not %v", what, err, number)
	}
}

// may fails the test, if May and Standard don't tell this error of a task, or change it.
func may(t *testing.T, p task, number api.Errno, where string, at int) {
	t.Helper()
	q := posed(p)
	told(t, "May of "+taskText(p), prob.May(q), number, where, at)
	if probText(q) != taskText(p) {
		t.Fatalf("May has made %s of %s", probText(q), taskText(p))
	}
	s, err := prob.Standard(q)
	told(t, "Standard of "+taskText(p), err, number, where, at)
	if number != api.OK && (s.A.Rows() != 0 || s.A.Cols() != 0 || len(s.B) > 0 || len(s.C) > 0 || s.Own != 0 || len(s.Left) > 0) {
		t.Fatalf("Standard of %s: an error, and yet %s", taskText(p), stdText(s))
	}
	if probText(q) != taskText(p) {
		t.Fatalf("Standard has made %s of %s", probText(q), taskText(p))
	}
	if copied := probText(q.Copy()); copied != taskText(p) {
		t.Fatalf("Copy of %s is %s", taskText(p), copied)
	}
}

// judged fails the test, if anything asked about a task and x is not as math/big tells.
func judged(t *testing.T, p task, x row) {
	t.Helper()
	q, a := posed(p), line(x)
	for k, b := range p.bonds {
		want := new(big.Rat)
		if len(x) == len(b.coef) {
			want = b.over(x)
		}
		if o, ok := q.Rows[k].Over(a); ok != (len(x) == len(b.coef)) || ratText(o) != want.RatString() {
			t.Fatalf("row %d of %s: Over %s is %s, %t; want %s", k, taskText(p), text(x), ratText(o), ok, want.RatString())
		}
		if is := q.Rows[k].Holds(a); is != b.holds(x) {
			t.Fatalf("row %d of %s: Holds %s is %t", k, taskText(p), text(x), is)
		}
	}
	if is := prob.Fits(q, a); is != p.fits(x) {
		t.Fatalf("Fits of %s and %s is %t", taskText(p), text(x), is)
	}
	want := new(big.Rat)
	if len(x) == len(p.cost) {
		want = dot(p.cost, x)
	}
	if c, ok := prob.Cost(q, a); ok != (len(x) == len(p.cost)) || ratText(c) != want.RatString() {
		t.Fatalf("Cost of %s and %s is %s, %t; want %s", taskText(p), text(x), ratText(c), ok, want.RatString())
	}
	if probText(q) != taskText(p) || lineText(a) != text(x) {
		t.Fatalf("%s and %s have become %s and %s", taskText(p), text(x), probText(q), lineText(a))
	}
}

// standard is Standard of a task, which must be as the document says.
func standard(t *testing.T, p task) prob.Std {
	t.Helper()
	q := posed(p)
	s, err := prob.Standard(q)
	told(t, "Standard of "+taskText(p), err, api.OK, "", 0)
	if probText(q) != taskText(p) {
		t.Fatalf("Standard has made %s of %s", probText(q), taskText(p))
	}
	if got, want := stdText(s), wanted(p); got != want {
		t.Fatalf("Standard of %s is %s; want %s", taskText(p), got, want)
	}
	return s
}

// wanted is what Standard is to make of a task, in words.
func wanted(p task) string {
	slacks := 0
	for _, b := range p.bonds {
		if b.kind != api.Eq {
			slacks++
		}
	}
	own := len(p.cost)
	cols := own + slacks
	lines, left, rhs, next := "", "", row{}, own
	for _, b := range p.bonds {
		r := append(slices.Clone(b.coef), noughts(slacks)...)
		at := -1
		if b.kind != api.Eq {
			at = next
			next++
			r[at] = big.NewRat(map[api.Kind]int64{api.Le: 1, api.Ge: -1}[b.kind], 1)
		}
		lines += " " + text(r)
		left += " " + strconv.Itoa(at)
		rhs = append(rhs, b.rhs)
	}
	return "A " + strconv.Itoa(len(p.bonds)) + " by " + strconv.Itoa(cols) + ":" + lines +
		"; B " + text(rhs) + "; C " + text(append(slices.Clone(p.cost), noughts(slacks)...)) +
		"; Own " + strconv.Itoa(own) + "; Left" + left
}

// raised fails the test, if Lift of x is not as the document says.
func raised(t *testing.T, p task, s prob.Std, x row) {
	t.Helper()
	a, was := line(x), stdText(s)
	z, ok := s.Lift(a)
	if stdText(s) != was || lineText(a) != text(x) {
		t.Fatalf("Lift has made %s and %s of %s and %s", stdText(s), lineText(a), was, text(x))
	}
	if len(x) != len(p.cost) {
		if ok || len(z) > 0 {
			t.Fatalf("Lift of %s by %s is %s, %t", text(x), taskText(p), lineText(z), ok)
		}
		return
	}
	if want := p.lifted(x); !ok || lineText(z) != text(want) {
		t.Fatalf("Lift of %s by %s is %s, %t; want %s", text(x), taskText(p), lineText(z), ok, text(want))
	}
	balanced(t, s, z)
	loose := func(b bond) bool { return b.kind != api.Eq && !b.holds(x) }
	if z.Below() != (a.Below() || slices.ContainsFunc(p.bonds, loose)) {
		t.Fatalf("Lift of %s by %s is %s", text(x), taskText(p), lineText(z))
	}
}

// balanced fails the test, if a row of s that has a column of its own is not just by z.
func balanced(t *testing.T, s prob.Std, z vec.Vec) {
	t.Helper()
	sums, ok := s.A.Times(z)
	if !ok {
		t.Fatalf("%s is not as long as the rows of %s", lineText(z), stdText(s))
	}
	for k, c := range s.Left {
		if c >= 0 && !rat.Same(sums[k], s.B[k]) {
			t.Fatalf("row %d of %s: %s by %s", k, stdText(s), ratText(sums[k]), lineText(z))
		}
	}
}

// memory is where the words and elements of something lie.
func memory(of any) map[uintptr]bool {
	seen := map[uintptr]bool{}
	look(reflect.ValueOf(of), seen)
	return seen
}

func look(v reflect.Value, seen map[uintptr]bool) {
	switch v.Kind() {
	case reflect.Slice:
		if v.Cap() > 0 {
			seen[v.Pointer()] = true
		}
		for i := range v.Len() {
			look(v.Index(i), seen)
		}
	case reflect.Struct:
		for i := range v.NumField() {
			look(v.Field(i), seen)
		}
	case reflect.Pointer:
		if !v.IsNil() {
			seen[v.Pointer()] = true
			look(v.Elem(), seen)
		}
	}
}

// apart fails the test, if two of what it is given lie in the same memory.
func apart(t *testing.T, what string, of ...any) {
	t.Helper()
	whose := map[uintptr]int{}
	for i, v := range of {
		for at := range memory(v) {
			if j, taken := whose[at]; taken {
				t.Fatalf("%s: %d and %d share memory", what, j, i)
			}
			whose[at] = i
		}
	}
}

// overwrite puts something else into each element, and behind the last one.
func overwrite(as ...vec.Vec) {
	for _, a := range as {
		for i := range a {
			a[i] = rat.Int(99)
		}
		_ = append(a, rat.Int(100))
	}
}

// spoil puts something else into all of a problem.
func spoil(p prob.Prob) {
	overwrite(p.Cost)
	for k, r := range p.Rows {
		overwrite(r.Coef)
		p.Rows[k] = prob.Row{Coef: vec.Of(7, 7, 7), Kind: 7, Rhs: rat.Int(7)}
	}
	_ = append(p.Rows, prob.Row{Kind: 8})
}

// wreck puts something else into all of a Std but its matrix.
func wreck(s prob.Std) {
	overwrite(s.B, s.C)
	for k := range s.Left {
		s.Left[k] = 99
	}
	_ = append(s.Left, 100)
}

func TestP161Table(t *testing.T) {
	for _, c := range []struct {
		p      string
		number api.Errno
		where  string
		at     int
	}{
		{"", api.OK, "", 0},
		{"1", api.OK, "", 0},
		{"0 0 0", api.OK, "", 0},
		{"; <= 3", api.OK, "", 0},
		{"; <= -3; >= 2; = 1", api.OK, "", 0},
		{"1 1; 1 2 >= 4; 3 1 <= 9", api.OK, "", 0},
		{"-1 1/2; 0 0 = 1/3; 0 0 = 1/3", api.OK, "", 0},
		{"1 1; 1 >= 4; 3 1 <= 9", api.ErrSize, "row", 0},
		{"1 1; 1 2 3 >= 4; 3 1 <= 9", api.ErrSize, "row", 0},
		{"1 1; >= 4; 3 1 <= 9", api.ErrSize, "row", 0},
		{"1 1; 1 2 >= 4; 3 <= 9", api.ErrSize, "row", 1},
		{"1 1; 1 2 >= 4; 3 1 1 <= 9", api.ErrSize, "row", 1},
		{"1 1; 1 2 ? 4; 3 1 <= 9", api.ErrKind, "row", 0},
		{"1 1; 1 2 >= 4; 3 1 ? 9", api.ErrKind, "row", 1},
		{"1 1; 1 2 ? 4; 3 <= 9", api.ErrKind, "row", 0},
		{"1 1; 1 >= 4; 3 1 ? 9", api.ErrSize, "row", 0},
		{"1 1; 1 ? 4; 3 1 ? 9", api.ErrSize, "row", 0},
		{"1 1; 1 2 ? 4; 3 ? 9", api.ErrKind, "row", 0},
		{"1 1; 1 2 = 4; ? 9", api.ErrSize, "row", 1},
		{"; ? 4", api.ErrKind, "row", 0},
		{"; 1 = 4", api.ErrSize, "row", 0},
		{"; = 4; = 1; 0 = 4", api.ErrSize, "row", 2},
	} {
		may(t, set(c.p), c.number, c.where, c.at)
	}
	told(t, "May of nothing", prob.May(prob.Prob{}), api.OK, "", 0)
	told(t, "May of none", prob.May(prob.Prob{Cost: vec.Vec{}, Rows: []prob.Row{}}), api.OK, "", 0)
	told(t, "May of a zero Row", prob.May(prob.Prob{Rows: make([]prob.Row, 1)}), api.ErrKind, "row", 0)
	told(t, "May of a zero Row", prob.May(prob.Prob{Cost: vec.Of(1), Rows: make([]prob.Row, 1)}), api.ErrSize, "row", 0)
}

// TestP161Most asks for as many numbers and rows as there may be, and for more.
func TestP161Most(t *testing.T) {
	for _, cols := range []int{0, 1, 20, 21, 23, 24, 25, 26, 64, 65} {
		for _, rows := range []int{0, 1, 19, 20, 21, 22, 24, 25, 65} {
			p := sized(cols, rows)
			if cols <= 24 && rows <= 20 {
				may(t, p, api.OK, "", 0)
				continue
			}
			may(t, p, api.ErrSize, "", 0)
			if rows > 0 {
				// That there are too many is told first.
				p.bonds[0].kind = 0
				may(t, p, api.ErrSize, "", 0)
				p.bonds[0].kind = api.Eq
				p.bonds[rows-1].coef = noughts(cols + 1)
				may(t, p, api.ErrSize, "", 0)
			}
		}
	}
}

// TestP161Row has each row of some problems be wrong, each in each way.
func TestP161Row(t *testing.T) {
	for _, cols := range []int{0, 1, 5, 24} {
		for _, rows := range []int{1, 2, 9} {
			for k := range rows {
				p := sized(cols, rows)
				right := p.bonds[k]
				for _, n := range []int{0, 1, cols - 1, cols + 1, 2 * cols, 65} {
					if n < 0 || n == cols {
						continue
					}
					p.bonds[k] = bond{noughts(n), right.kind, right.rhs}
					may(t, p, api.ErrSize, "row", k)
					p.bonds[k].kind = strangers[n%len(strangers)]
					may(t, p, api.ErrSize, "row", k)
				}
				for _, kind := range strangers {
					p.bonds[k] = bond{right.coef, kind, right.rhs}
					may(t, p, api.ErrKind, "row", k)
				}
				for _, kind := range kinds {
					p.bonds[k] = bond{right.coef, kind, right.rhs}
					may(t, p, api.OK, "", 0)
				}
			}
		}
	}
}

// TestP161First has two rows be wrong.
func TestP161First(t *testing.T) {
	for k := range 20 {
		for j := range k {
			for i := range 9 {
				p := sized(3, k+1)
				wrong, number := p.bonds[j], api.ErrKind
				switch i % 3 {
				case 0:
					p.bonds[j].coef, number = noughts(2), api.ErrSize
				case 1:
					p.bonds[j].kind = 4
				case 2:
					p.bonds[j], number = bond{noughts(4), 0, wrong.rhs}, api.ErrSize
				}
				switch i / 3 {
				case 0:
					p.bonds[k].coef = noughts(4)
				case 1:
					p.bonds[k].kind = 0
				case 2:
					p.bonds[k] = bond{noughts(2), -1, wrong.rhs}
				}
				may(t, p, number, "row", j)
			}
		}
	}
}

// copies are some problems, also such as may not be.
func copies() []task {
	return []task{
		{},
		set("1"),
		set("; <= 3"),
		set("1 1; 1 2 >= 4; 3 1 <= 9"),
		set("1 1; 1 ? 4; 3 1 7 <= 1/2; = 7"),
		long(),
		sized(24, 20),
		sized(25, 21),
		sized(65, 70),
	}
}

// TestP161Copy changes a copy and what it is a copy of, one after the other.
func TestP161Copy(t *testing.T) {
	for _, p := range copies() {
		q := posed(p)
		own := q.Copy()
		apart(t, "a problem and its copies", q, own, q.Copy(), own.Copy())
		if probText(q) != taskText(p) || probText(own) != taskText(p) {
			t.Fatalf("%s is %s, its copy %s", taskText(p), probText(q), probText(own))
		}
		spoil(own)
		if probText(q) != taskText(p) {
			t.Fatalf("%s is %s after its copy was changed", taskText(p), probText(q))
		}
		own = q.Copy()
		spoil(q)
		if probText(own) != taskText(p) {
			t.Fatalf("the copy of %s is %s after that was changed", taskText(p), probText(own))
		}
	}
}

func TestP162Over(t *testing.T) {
	for _, c := range []struct{ row, x, want string }{
		{"1 2 >= 4", "1 1", "-1"},
		{"1 2 <= 4", "1 1", "-1"},
		{"1 2 = 4", "1 1", "-1"},
		{"1 2 ? 4", "1 1", "-1"},
		{"3 1 <= 9", "1 1", "-5"},
		{"3 1 <= 9", "0 0", "-9"},
		{"3 1 <= -9", "0 0", "9"},
		{"3 1 <= 9", "4 -1", "2"},
		{"3 1 <= 9", "-4 -1", "-22"},
		{"3 1 <= 9", "3 0", "0"},
		{"1/2 1/3 <= 5/6", "1 1", "0"},
		{"1/2 1/3 <= 5/6", "1 0", "-1/3"},
		{"1/2 -1/3 <= 1/7", "1/5 1/11", "-169/2310"},
		{"<= 0", "", "0"},
		{"<= 1/3", "", "-1/3"},
		{">= -1/3", "", "1/3"},
		{"0 0 = 0", "5 7", "0"},
		{"18446744073709551616 = 18446744073709551615", "1", "1"},
		{"1/18446744073709551616 = 1/18446744073709551615", "1", "-1/340282366920938463444927863358058659840"},
		{"1 2 <= 4", "", "none"},
		{"1 2 <= 4", "1", "none"},
		{"1 2 <= 4", "1 1 0", "none"},
		{"<= 4", "0", "none"},
		{"1 >= 4", "", "none"},
	} {
		b, x := bound(c.row), read(c.x)
		q := prob.Row{Coef: line(b.coef), Kind: b.kind, Rhs: of(b.rhs)}
		o, ok := q.Over(line(x))
		got := ratText(o)
		if !ok && o.Zero() {
			got = "none"
		}
		if got != c.want || ok != (c.want != "none") {
			t.Errorf("%s: Over %s is %s, %t; want %s", c.row, c.x, ratText(o), ok, c.want)
		}
	}
	if o, ok := (prob.Row{}).Over(nil); !ok || !o.Zero() {
		t.Error("Over of nothing is", ratText(o), ok)
	}
	if o, ok := (prob.Row{Rhs: rat.Int(3)}).Over(vec.Vec{}); !ok || ratText(o) != "-3" {
		t.Error("Over of no sum is", ratText(o), ok)
	}
}

func TestP162Holds(t *testing.T) {
	for _, c := range []struct {
		coef, x, rhs string
		sign         int // whether the sum is less, just, or more; 2: the lengths don't fit
	}{
		{"1 2", "1 1", "4", -1},
		{"1 2", "2 1", "4", 0},
		{"1 2", "2 2", "4", 1},
		{"1 2", "0 0", "0", 0},
		{"1 2", "0 0", "1/18446744073709551616", -1},
		{"1 2", "0 0", "-1/18446744073709551616", 1},
		{"1/2 1/3", "1 1", "5/6", 0},
		{"1/2 1/3", "1 1", "15372286728091293014/18446744073709551616", -1},
		{"1/2 1/3", "1 1", "15372286728091293013/18446744073709551616", 1},
		{"1 1", "-1 1", "0", 0},
		{"1 1", "-2 1", "0", -1},
		{"-1 -1", "-2 1", "0", 1},
		{"18446744073709551616", "1", "18446744073709551616", 0},
		{"18446744073709551616", "1", "18446744073709551617", -1},
		{"18446744073709551616", "1", "18446744073709551615", 1},
		{"-18446744073709551616", "1", "18446744073709551616", -1},
		{"", "", "0", 0},
		{"", "", "1", -1},
		{"", "", "-1", 1},
		{"1 2", "1", "1", 2},
		{"1 2", "", "0", 2},
		{"1 2", "1 0 0", "1", 2},
		{"", "0", "0", 2},
	} {
		a, x, rhs := line(read(c.coef)), line(read(c.x)), of(fraction(c.rhs))
		want := map[api.Kind]bool{api.Le: c.sign == -1 || c.sign == 0, api.Ge: c.sign == 1 || c.sign == 0, api.Eq: c.sign == 0}
		for _, kind := range append(slices.Clone(kinds), strangers...) {
			if is := (prob.Row{Coef: a, Kind: kind, Rhs: rhs}).Holds(x); is != want[kind] {
				t.Errorf("%s, %d, %s: Holds %s is %t", c.coef, kind, c.rhs, c.x, is)
			}
		}
	}
	if (prob.Row{}).Holds(nil) {
		t.Error("a zero Row holds")
	}
}

func TestP162Fits(t *testing.T) {
	for _, c := range []struct {
		p, x string
		want bool
	}{
		{"1 1; 1 2 >= 4; 3 1 <= 9", "0 2", true},
		{"1 1; 1 2 >= 4; 3 1 <= 9", "0 1", false},
		{"1 1; 1 2 >= 4; 3 1 <= 9", "14/5 3/5", true},
		{"1 1; 1 2 >= 4; 3 1 <= 9", "3 0", false},
		{"1 1; 1 2 >= 4; 3 1 <= 9", "4 0", false},
		{"1 1; 1 2 >= 4; 3 1 <= 9", "4 4", false},
		{"1 1; 1 2 >= 4; 3 1 <= 9", "-1 5", false},
		{"1 1; 1 2 >= 4; 3 1 <= 9", "0", false},
		{"1 1; 1 2 >= 4; 3 1 <= 9", "", false},
		{"1 1; 1 2 >= 4; 3 1 <= 9", "0 2 0", false},
		{"1 1", "0 0", true},
		{"1 1", "1/3 7", true},
		{"1 1", "-1/18446744073709551616 7", false},
		{"1 1", "7 -1/18446744073709551616", false},
		{"1 1", "-1 -1", false},
		{"1 1", "1", false},
		{"1 1", "1 1 1", false},
		{"", "", true},
		{"", "0", false},
		{"; <= 0", "", true},
		{"; = 0; <= 1; >= -1", "", true},
		{"; = 0; <= 1; >= 1", "", false},
		{"; >= 1/2", "", false},
		{"0 0; 1 1 = 1", "1/2 1/2", true},
		{"0 0; 1 1 = 1", "1/2 1/3", false},
		{"0 0; 1 1 = 1", "3/2 -1/2", false},
		{"0 0; 1 1 ? 1", "1/2 1/2", false},
		{"0 0; 1 1 = 1; 1 = 1", "1/2 1/2", false},
		{"0 0; 1 1 = 1; 1 = 1", "1", false},
		{"0; 1 1 = 1", "1", false},
		{"0; 1 1 = 1", "1 0", false},
		{"0; <= 1", "1", false},
	} {
		p := set(c.p)
		if is := prob.Fits(posed(p), line(read(c.x))); is != c.want {
			t.Errorf("Fits of %s and %s is %t", c.p, c.x, is)
		}
		judged(t, p, read(c.x))
	}
	if !prob.Fits(prob.Prob{}, nil) {
		t.Error("nothing does not fit a problem of nothing")
	}
}

// TestP162Below has one number be below 0 where all rows hold, each in its turn.
func TestP162Below(t *testing.T) {
	for n := 1; n <= 24; n++ {
		p := task{cost: numbers(n)}
		for k := range 20 {
			p.bonds = append(p.bonds, bond{noughts(n), kinds[k%3], new(big.Rat)})
		}
		x := noughts(n)
		judged(t, p, x)
		if !prob.Fits(posed(p), line(x)) {
			t.Fatalf("0 does not fit %s", taskText(p))
		}
		for i := range n {
			x := noughts(n)
			x[i] = big.NewRat(-1, 1<<60)
			judged(t, p, x)
			if prob.Fits(posed(p), line(x)) {
				t.Fatalf("%s fits", text(x))
			}
		}
	}
}

// TestP162Each has one row not hold where all others do, each in its turn.
func TestP162Each(t *testing.T) {
	x := read("1/2 2/3 3")
	for rows := 1; rows <= 21; rows++ {
		p := task{cost: numbers(3)}
		for k := range rows {
			coef := numbers(3 + k)[k:]
			p.bonds = append(p.bonds, bond{coef, kinds[k%3], dot(coef, x)})
		}
		if !prob.Fits(posed(p), line(x)) {
			t.Fatalf("%s does not fit %s", text(x), taskText(p))
		}
		for k, b := range p.bonds {
			for _, little := range []int64{-1, 1} {
				p.bonds[k].rhs = new(big.Rat).Add(b.rhs, big.NewRat(little, 1<<60))
				if is := prob.Fits(posed(p), line(x)); is != (b.kind == api.Le && little > 0 || b.kind == api.Ge && little < 0) {
					t.Fatalf("Fits of %s and %s is %t", taskText(p), text(x), is)
				}
				judged(t, p, x)
			}
			p.bonds[k] = bond{b.coef, strangers[k%len(strangers)], b.rhs}
			if prob.Fits(posed(p), line(x)) {
				t.Fatalf("%s fits %s", text(x), taskText(p))
			}
			p.bonds[k] = bond{append(slices.Clone(b.coef), new(big.Rat)), b.kind, b.rhs}
			if prob.Fits(posed(p), line(x)) {
				t.Fatalf("%s fits %s", text(x), taskText(p))
			}
			p.bonds[k] = b
		}
	}
}

func TestP162Cost(t *testing.T) {
	for _, c := range []struct{ cost, x, want string }{
		{"1 1", "3 4", "7"},
		{"1 1", "-3 4", "1"},
		{"1 1", "-3 -4", "-7"},
		{"1/2 -1/3", "1 1", "1/6"},
		{"0 0", "1 1", "0"},
		{"5 7", "0 0", "0"},
		{"", "", "0"},
		{"18446744073709551616 1", "18446744073709551616 1", "340282366920938463463374607431768211457"},
		{"1 1", "3", "none"},
		{"1 1", "", "none"},
		{"1 1", "3 4 0", "none"},
		{"", "1", "none"},
	} {
		for _, rows := range []string{"", "; ? 1", "; 1 1 = 0; 1 <= 0"} {
			p := posed(set(c.cost + rows))
			v, ok := prob.Cost(p, line(read(c.x)))
			got := ratText(v)
			if !ok && v.Zero() {
				got = "none"
			}
			if got != c.want || ok != (c.want != "none") {
				t.Errorf("Cost of %s and %s is %s, %t; want %s", c.cost, c.x, ratText(v), ok, c.want)
			}
		}
	}
	if v, ok := prob.Cost(prob.Prob{}, nil); !ok || !v.Zero() {
		t.Error("Cost of nothing is", ratText(v), ok)
	}
}

// tuples are all of n of some fractions.
func tuples(n int, vs row) []row {
	all := []row{{}}
	for range n {
		longer := []row{}
		for _, x := range all {
			for _, v := range vs {
				longer = append(longer, append(slices.Clone(x), v))
			}
		}
		all = longer
	}
	return all
}

// TestP162Every asks all about rows and numbers of few values.
func TestP162Every(t *testing.T) {
	vs := read("-1 0 1/2")
	xs := slices.Concat(tuples(0, vs), tuples(1, vs), tuples(2, vs), tuples(3, vs))
	for n := range 3 {
		for _, coef := range tuples(n, vs) {
			for _, rhs := range read("-1/2 0 1/4 1") {
				p := task{cost: coef}
				for kind := range api.Kind(5) {
					p.bonds = []bond{{coef, kind, rhs}}
					for _, x := range xs {
						judged(t, p, x)
					}
				}
			}
		}
	}
}

// TestP162Random asks about problems by numbers that keep, or nearly keep, all their rows.
func TestP162Random(t *testing.T) {
	d := rolled(1)
	fit := 0
	for range 600 {
		x := d.sizes(d.IntN(25))
		p := d.task(d.IntN(21), x)
		if d.IntN(2) == 0 {
			for k := range p.bonds {
				p.bonds[k].rhs = dot(p.bonds[k].coef, x)
			}
		}
		judged(t, p, x)
		if p.fits(x) {
			fit++
		}
		if len(x) > 0 {
			x[d.IntN(len(x))].Sub(x[0], big.NewRat(1, 1<<50))
			judged(t, p, x)
			judged(t, p, x[1:])
		}
		judged(t, p, append(x, new(big.Rat)))
	}
	if fit < 200 || fit > 500 {
		t.Errorf("%d of 600 fit: too many or too few to tell anything", fit)
	}
}

// TestP162Long asks about numbers of many words.
func TestP162Long(t *testing.T) {
	for _, x := range []string{"0 0", "1 1", "36893488147419103235/7 18446744073709551617", "1/18446744073709551617 -36893488147419103235", "1", "1 2 3"} {
		judged(t, long(), read(x))
	}
}

// TestP162Great asks about problems that are greater than May lets be.
func TestP162Great(t *testing.T) {
	d := rolled(2)
	for _, n := range []int{25, 64, 65, 130} {
		for _, rows := range []int{21, 64, 65, 130} {
			x := d.sizes(n)
			p := d.task(rows, x)
			judged(t, p, x)
			for k := range p.bonds {
				p.bonds[k].rhs = dot(p.bonds[k].coef, x)
			}
			judged(t, p, x)
			if !prob.Fits(posed(p), line(x)) {
				t.Fatalf("%s does not fit %s", text(x), taskText(p))
			}
			judged(t, p, x[1:])
		}
	}
}

func TestP163Table(t *testing.T) {
	for _, c := range []struct{ p, want string }{
		{"1 1; 1 2 >= 4; 3 1 <= 9", "A 2 by 4: [ 1 2 -1 0 ] [ 3 1 0 1 ]; B [ 4 9 ]; C [ 1 1 0 0 ]; Own 2; Left 2 3"},
		{"", "A 0 by 0:; B [ ]; C [ ]; Own 0; Left"},
		{"1 1/2 0", "A 0 by 3:; B [ ]; C [ 1 1/2 0 ]; Own 3; Left"},
		{"; <= 3", "A 1 by 1: [ 1 ]; B [ 3 ]; C [ 0 ]; Own 0; Left 0"},
		{"; >= -3", "A 1 by 1: [ -1 ]; B [ -3 ]; C [ 0 ]; Own 0; Left 0"},
		{"; = 1/3", "A 1 by 0: [ ]; B [ 1/3 ]; C [ ]; Own 0; Left -1"},
		{"5; 7 = 1", "A 1 by 1: [ 7 ]; B [ 1 ]; C [ 5 ]; Own 1; Left -1"},
		{"5; 7 = 1; 0 = 0; -1 = 1/2", "A 3 by 1: [ 7 ] [ 0 ] [ -1 ]; B [ 1 0 1/2 ]; C [ 5 ]; Own 1; Left -1 -1 -1"},
		{"5; 7 <= 1; 0 <= 0; -1 <= -1/2", "A 3 by 4: [ 7 1 0 0 ] [ 0 0 1 0 ] [ -1 0 0 1 ]; B [ 1 0 -1/2 ]; C [ 5 0 0 0 ]; Own 1; Left 1 2 3"},
		{"5; 7 = 1; 2 >= -9; -3 = 2; 4 <= 3/4; 9 = 1", "A 5 by 3: [ 7 0 0 ] [ 2 -1 0 ] [ -3 0 0 ] [ 4 0 1 ] [ 9 0 0 ]; B [ 1 -9 2 3/4 1 ]; C [ 5 0 0 ]; Own 1; Left -1 1 -1 2 -1"},
		{"-1 -2; 1/2 1/3 >= 1/6; 1/7 0 = 0", "A 2 by 3: [ 1/2 1/3 -1 ] [ 1/7 0 0 ]; B [ 1/6 0 ]; C [ -1 -2 0 ]; Own 2; Left 2 -1"},
	} {
		p := set(c.p)
		s, err := prob.Standard(posed(p))
		told(t, "Standard of "+c.p, err, api.OK, "", 0)
		if stdText(s) != c.want {
			t.Errorf("Standard of %s is %s; want %s", c.p, stdText(s), c.want)
		}
		standard(t, p)
	}
}

// TestP163Errors asks for the standard form of what is no problem.
func TestP163Errors(t *testing.T) {
	for _, c := range []struct {
		p      task
		number api.Errno
		where  string
		at     int
	}{
		{sized(25, 0), api.ErrSize, "", 0},
		{sized(0, 21), api.ErrSize, "", 0},
		{sized(25, 21), api.ErrSize, "", 0},
		{sized(65, 65), api.ErrSize, "", 0},
		{set("1 1; 1 2 >= 4; 3 1 ? 9"), api.ErrKind, "row", 1},
		{set("1 1; 1 2 >= 4; 3 <= 9"), api.ErrSize, "row", 1},
		{set("1 1; 1 2 >= 4; 3 1 2 <= 9; 1 ? 1"), api.ErrSize, "row", 1},
		{set("; ? 1"), api.ErrKind, "row", 0},
	} {
		may(t, c.p, c.number, c.where, c.at)
	}
}

// TestP163Every has each row of up to 5 be of each kind.
func TestP163Every(t *testing.T) {
	for n := range 6 {
		for _, code := range tuples(n, read("1 2 3")) {
			for _, cols := range []int{0, 1, 3} {
				p := sized(cols, n)
				for k, v := range code {
					p.bonds[k].kind = api.Kind(v.Num().Int64())
				}
				s := standard(t, p)
				raised(t, p, s, numbers(cols))
				raised(t, p, s, noughts(cols))
			}
		}
	}
}

// TestP163Most asks for the greatest standard forms there are.
func TestP163Most(t *testing.T) {
	d := rolled(3)
	for _, kinds := range [][]api.Kind{{api.Le}, {api.Ge}, {api.Eq}, {api.Le, api.Ge}, {api.Eq, api.Ge}, {api.Eq, api.Eq, api.Le}} {
		for _, n := range []int{0, 23, 24} {
			for _, rows := range []int{19, 20} {
				x := d.sizes(n)
				p := d.task(rows, x)
				for k := range p.bonds {
					p.bonds[k].kind = kinds[k%len(kinds)]
				}
				raised(t, p, standard(t, p), x)
			}
		}
	}
}

// TestP163Random asks for those of many problems.
func TestP163Random(t *testing.T) {
	d := rolled(4)
	for range 300 {
		standard(t, d.task(d.IntN(21), d.row(d.IntN(25))))
	}
	standard(t, long())
}

func TestP164Table(t *testing.T) {
	for _, c := range []struct{ p, x, want string }{
		{"1 1; 1 2 >= 4; 3 1 <= 9", "0 2", "[ 0 2 0 7 ]"},
		{"1 1; 1 2 >= 4; 3 1 <= 9", "0 0", "[ 0 0 -4 9 ]"},
		{"1 1; 1 2 >= 4; 3 1 <= 9", "14/5 3/5", "[ 14/5 3/5 0 0 ]"},
		{"1 1; 1 2 >= 4; 3 1 <= 9", "4 0", "[ 4 0 0 -3 ]"},
		{"1 1; 1 2 >= 4; 3 1 <= 9", "-1 5", "[ -1 5 5 7 ]"},
		{"1 1; 1 2 = 4; 3 1 = 9", "5 7", "[ 5 7 ]"},
		{"1 1; 1 2 = 4; 3 1 <= 9; 1 0 = 1", "5 7", "[ 5 7 -13 ]"},
		{"1 1; 1 2 = 4; 3 1 >= 9; 1 0 = 1; 1/2 1/3 <= 7", "5 7", "[ 5 7 13 13/6 ]"},
		{"1 1", "5 7", "[ 5 7 ]"},
		{"", "", "[ ]"},
		{"; <= 3", "", "[ 3 ]"},
		{"; >= 3", "", "[ -3 ]"},
		{"; = 3; >= -1/2; <= 0", "", "[ 1/2 0 ]"},
		{"; = 3", "", "[ ]"},
		{"1 1; 1 2 >= 4; 3 1 <= 9", "", "none"},
		{"1 1; 1 2 >= 4; 3 1 <= 9", "0", "none"},
		{"1 1; 1 2 >= 4; 3 1 <= 9", "0 2 0", "none"},
		{"1 1; 1 2 >= 4; 3 1 <= 9", "0 2 0 7", "none"},
		{"", "0", "none"},
		{"; <= 3", "3", "none"},
		{"1; 1 = 3", "", "none"},
	} {
		p, x := set(c.p), read(c.x)
		s := standard(t, p)
		z, ok := s.Lift(line(x))
		got := lineText(z)
		if !ok && len(z) == 0 {
			got = "none"
		}
		if got != c.want || ok != (c.want != "none") {
			t.Errorf("Lift of %s by %s is %s, %t; want %s", c.x, c.p, lineText(z), ok, c.want)
		}
		raised(t, p, s, x)
	}
}

// TestP164Every lifts all numbers of few values by all rows of these.
func TestP164Every(t *testing.T) {
	vs := read("-1 0 1/2")
	xs := slices.Concat(tuples(0, vs), tuples(1, vs), tuples(2, vs), tuples(3, vs))
	for n := range 3 {
		for _, coef := range tuples(n, vs) {
			for _, rhs := range read("-1/2 0 1/4 1") {
				for kind := range api.Kind(3) {
					p := task{coef, []bond{{coef, 1 + kind, rhs}, {coef, 1 + (kind+1)%3, rhs}}}
					s := standard(t, p)
					for _, x := range xs {
						raised(t, p, s, x)
					}
				}
			}
		}
	}
}

// TestP164Random lifts what keeps, or nearly keeps, the rows of many problems.
func TestP164Random(t *testing.T) {
	d := rolled(5)
	fit := 0
	for range 400 {
		x := d.sizes(d.IntN(25))
		p := d.task(d.IntN(8), x)
		s := standard(t, p)
		raised(t, p, s, x)
		z, _ := s.Lift(line(x))
		if !z.Below() {
			fit++
		}
		raised(t, p, s, append(slices.Clone(x), new(big.Rat)))
		if len(x) > 0 {
			raised(t, p, s, x[1:])
			x[d.IntN(len(x))].SetFrac64(-1, 1<<50)
			raised(t, p, s, x)
		}
	}
	if fit < 80 || fit > 320 {
		t.Errorf("of %d of 400 nothing is below 0: too many or too few to tell anything", fit)
	}
}

// TestP164Fits has Lift tell the same as Fits where no row is an equation.
func TestP164Fits(t *testing.T) {
	d := rolled(6)
	for range 200 {
		x := d.row(d.IntN(4))
		p := d.task(d.IntN(6), x)
		for k := range p.bonds {
			p.bonds[k].kind = kinds[d.IntN(2)]
		}
		z, ok := standard(t, p).Lift(line(x))
		if !ok || z.Below() == prob.Fits(posed(p), line(x)) {
			t.Fatalf("Lift of %s by %s is %s, %t, and Fits the same", text(x), taskText(p), lineText(z), ok)
		}
	}
}

// TestP164Long lifts numbers of many words.
func TestP164Long(t *testing.T) {
	p := long()
	s := standard(t, p)
	for _, x := range []string{"0 0", "1 1", "36893488147419103235/7 18446744073709551617", "1/18446744073709551617 -36893488147419103235", "1", "1 2 3"} {
		raised(t, p, s, read(x))
	}
}

// TestP163Apart changes what Standard was given, and what it has returned.
func TestP163Apart(t *testing.T) {
	for _, p := range []task{{}, set("1"), set("; <= 3"), set("1 1; 1 2 >= 4; 3 1 <= 9"), set("1 1; 1 2 = 4; 3 1 = 9"), long(), sized(24, 20)} {
		q := posed(p)
		s, err := prob.Standard(q)
		told(t, "Standard", err, api.OK, "", 0)
		other, _ := prob.Standard(q)
		apart(t, "a problem and its standard forms", q, s, other)
		for _, parts := range [][]any{{s.A, s.B, s.C, s.Left}, {other.A, other.B, other.C, other.Left}} {
			apart(t, "the parts of a standard form", parts...)
		}
		spoil(q)
		if stdText(s) != wanted(p) {
			t.Fatalf("Standard of %s is %s after that was changed", taskText(p), stdText(s))
		}
		raised(t, p, s, numbers(len(p.cost)))
		wreck(s)
		if stdText(other) != wanted(p) {
			t.Fatalf("Standard of %s is %s after another one was changed", taskText(p), stdText(other))
		}
		q = posed(p)
		s, _ = prob.Standard(q)
		wreck(s)
		if probText(q) != taskText(p) {
			t.Fatalf("%s is %s after its standard form was changed", taskText(p), probText(q))
		}
	}
}

// TestP164Apart changes what Lift was given, and what it has returned.
func TestP164Apart(t *testing.T) {
	for _, p := range []task{set("1 1"), set("1 1; 1 2 >= 4; 3 1 <= 9"), set("1 1; 1 2 = 4; 3 1 = 9"), long()} {
		s := standard(t, p)
		all := line(read("1/18446744073709551617 36893488147419103235 77"))
		x := all[:2]
		z, _ := s.Lift(x)
		other, _ := s.Lift(x)
		apart(t, "what was lifted, and by what", s, all, z, other)
		if lineText(all) != "[ 1/18446744073709551617 36893488147419103235 77 ]" {
			t.Fatal("what was handed in has become", lineText(all))
		}
		was := lineText(other)
		overwrite(z, all)
		if lineText(other) != was || stdText(s) != wanted(p) {
			t.Fatalf("%s has become %s, and %s %s", was, lineText(other), wanted(p), stdText(s))
		}
		raised(t, p, s, read("1 2"))
	}
}

// TestP162Apart asks whether what is told lies in memory of its own.
func TestP162Apart(t *testing.T) {
	great := "36893488147419103235/18446744073709551617"
	for _, p := range []string{great + "; 1 <= 0", "1; " + great + " <= 0", "0; 0 <= " + great} {
		q := posed(set(p))
		for _, x := range []vec.Vec{vec.Of(0), vec.Of(1), line(read(great))} {
			o, _ := q.Rows[0].Over(x)
			c, _ := prob.Cost(q, x)
			apart(t, "a problem, numbers, and what they come to", q, x, o, c)
		}
	}
}

// TestP164Changed lifts by a standard form whose fields have been changed since:
// whatever stands in them, there is an answer.
func TestP164Changed(t *testing.T) {
	for _, c := range []struct {
		what   string
		change func(s *prob.Std)
		want   string // what becomes of 0 2; "none": nothing
	}{
		{"B is shorter", func(s *prob.Std) { s.B = s.B[:1] }, "none"},
		{"B is longer", func(s *prob.Std) { s.B = append(s.B, rat.Int(1)) }, "none"},
		{"no B", func(s *prob.Std) { s.B = nil }, "none"},
		{"Own is greater", func(s *prob.Std) { s.Own = 3 }, "none"},
		{"Own is less", func(s *prob.Std) { s.Own = -1 }, "none"},
		{"A has no columns", func(s *prob.Std) { s.A = mat.Mat{} }, "none"},
		{"A has no rows", func(s *prob.Std) { s.A, _ = mat.New(0, 4) }, "none"},
		{"another B", func(s *prob.Std) { s.B = vec.Of(1, 1) }, "[ 0 2 3 -1 ]"},
		{"no Left", func(s *prob.Std) { s.Left = nil }, "[ 0 2 0 0 ]"},
		{"Left is shorter", func(s *prob.Std) { s.Left = s.Left[:1] }, "[ 0 2 0 0 ]"},
		{"Left is longer", func(s *prob.Std) { s.Left = append(s.Left, 3, 0) }, "[ 0 2 0 7 ]"},
		{"Left is less than none", func(s *prob.Std) { s.Left = []int{math.MinInt, -2} }, "[ 0 2 0 0 ]"},
		{"Left is no column", func(s *prob.Std) { s.Left = []int{4, math.MaxInt} }, "[ 0 2 0 0 ]"},
	} {
		s := standard(t, set("1 1; 1 2 >= 4; 3 1 <= 9"))
		c.change(&s)
		z, ok := s.Lift(vec.Of(0, 2))
		got := lineText(z)
		if !ok && len(z) == 0 {
			got = "none"
		}
		if got != c.want || ok != (c.want != "none") {
			t.Errorf("%s: Lift is %s, %t; want %s", c.what, lineText(z), ok, c.want)
		}
	}
	for _, own := range []int{3, 4, 5, 65} {
		s := standard(t, set("1 1; 1 2 >= 4; 3 1 <= 9"))
		s.Own = own
		x, _ := vec.Nought(min(own, 64))
		z, ok := s.Lift(append(x, make(vec.Vec, own-len(x))...))
		if ok != (own <= 4) || ok != (len(z) == 4) {
			t.Errorf("Own is %d: Lift is %s, %t", own, lineText(z), ok)
		}
	}
}

func TestP164Examples(t *testing.T) {
	p := prob.Prob{Cost: vec.Of(1, 1), Rows: []prob.Row{{Coef: vec.Of(1, 2), Kind: api.Ge, Rhs: rat.Int(4)}, {Coef: vec.Of(3, 1), Kind: api.Le, Rhs: rat.Int(9)}}}
	if !prob.Fits(p, vec.Of(0, 2)) {
		t.Error("0 2 does not fit")
	}
	if o, ok := p.Rows[0].Over(vec.Of(1, 1)); !ok || !rat.Same(o, rat.Int(-1)) {
		t.Error("Over is", ratText(o), ok)
	}
	s, err := prob.Standard(p)
	told(t, "Standard", err, api.OK, "", 0)
	if a, _ := mat.Of(4, vec.Of(1, 2, -1, 0), vec.Of(3, 1, 0, 1)); !mat.Same(s.A, a) || !slices.Equal(s.Left, []int{2, 3}) {
		t.Error("Standard is", stdText(s))
	}
	if z, ok := s.Lift(vec.Of(0, 2)); !ok || !vec.Same(z, vec.Of(0, 2, 0, 7)) {
		t.Error("Lift is", lineText(z), ok)
	}
}
