package primal_test

import (
	"errors"
	"math"
	"math/big"
	"math/rand/v2"
	"reflect"
	"slices"
	"strconv"
	"strings"
	"testing"

	"actuary/api"
	"actuary/mat"
	"actuary/pack"
	"actuary/primal"
	"actuary/prob"
	"actuary/rat"
	"actuary/tab"
	"actuary/vec"
)

// row is some fractions, as math/big has them.
type row = []*big.Rat

// bond is a row of a problem of these.
type bond struct {
	coef row
	kind api.Kind
	rhs  *big.Rat
}

// task is a problem of these.
type task struct {
	cost  row
	bonds []bond
}

// form is a standard form of these: the rows of A, how many columns it has, B and C.
type form struct {
	rows []row
	n    int
	b, c row
	own  int
	left []int
}

// start is a form with a column more for each row, and what its rows were multiplied by.
type start struct {
	form
	signs []int
	first int // the first of the columns that were added
}

// board is a form seen from a basis: what each column, and behind them b, makes of the basis.
type board struct {
	lines []row
	cols  []int
}

// phase is what Feasible is to tell; answer is what Solve is to tell.
type phase struct {
	board *board
	duals row
	made  int
	spent int // at which pivot the budget was; -1: it was not
}

type answer struct {
	outcome           api.Outcome
	point, duals, ray row
	made, spent       int
}

var (
	kinds = []api.Kind{api.Le, api.Ge, api.Eq}
	signs = []string{"?", "<=", ">=", "="}
)

// fraction is that of a text.
func fraction(s string) *big.Rat {
	v, ok := new(big.Rat).SetString(s)
	if !ok {
		panic(s)
	}
	return v
}

// read is the fractions of a text.
func read(s string) row {
	all := row{}
	for _, word := range strings.Fields(s) {
		all = append(all, fraction(word))
	}
	return all
}

// bound is the bond of a text: "1 2 >= 4".
func bound(s string) bond {
	for k, sign := range signs {
		if before, after, ok := strings.Cut(" "+s, " "+sign+" "); ok {
			return bond{read(before), api.Kind(k), fraction(after)}
		}
	}
	panic(s)
}

// set is the task of a text: "1 1; 1 2 >= 4; 3 1 <= 9".
func set(s string) task {
	parts := strings.Split(s, ";")
	p := task{cost: read(parts[0])}
	for _, part := range parts[1:] {
		p.bonds = append(p.bonds, bound(strings.TrimSpace(part)))
	}
	return p
}

// shaped is the form of a text, in which all rows are equations: "1 1 0 0; 1 2 -1 0 = 4; 3 1 0 1 = 9".
func shaped(s string) form {
	return standard(set(s))
}

// of is the Rat of a fraction.
func of(v *big.Rat) rat.Rat {
	a, err := pack.Read(v.RatString())
	if err != nil {
		panic(v)
	}
	return a
}

// line is the Vec of some.
func line(vs row) vec.Vec {
	var a vec.Vec
	for _, v := range vs {
		a = append(a, of(v))
	}
	return a
}

// posed is the Prob of a task; std the Std of a form.
func posed(p task) prob.Prob {
	q := prob.Prob{Cost: line(p.cost)}
	for _, b := range p.bonds {
		q.Rows = append(q.Rows, prob.Row{Coef: line(b.coef), Kind: b.kind, Rhs: of(b.rhs)})
	}
	return q
}

func std(f form) prob.Std {
	var rows []vec.Vec
	for _, vs := range f.rows {
		rows = append(rows, line(vs))
	}
	a, ok := mat.Of(f.n, rows...)
	if !ok {
		panic(formText(f))
	}
	return prob.Std{A: a, B: line(f.b), C: line(f.c), Own: f.own, Left: slices.Clone(f.left)}
}

// back is a Vec as math/big has it.
func back(a vec.Vec) row {
	vs := row{}
	for _, x := range a {
		vs = append(vs, fraction(pack.Text(x)))
	}
	return vs
}

// text is fractions in words; lineText is that of a Vec, ints of ints, flags of bools.
func text(vs row) string {
	s := "["
	for _, v := range vs {
		s += " " + v.RatString()
	}
	return s + " ]"
}

func lineText(a vec.Vec) string {
	s := "["
	for _, x := range a {
		s += " " + pack.Text(x)
	}
	return s + " ]"
}

func ints(all []int) string {
	s := "("
	for _, i := range all {
		s += " " + strconv.Itoa(i)
	}
	return s + " )"
}

func flags(all []bool) string {
	s := "("
	for _, b := range all {
		s += " " + strconv.FormatBool(b)[:1]
	}
	return s + " )"
}

// taskText is a task in words, probText a Prob.
func taskText(p task) string {
	s := text(p.cost)
	for _, b := range p.bonds {
		s += "; " + text(b.coef) + " " + strconv.Itoa(int(b.kind)) + " " + b.rhs.RatString()
	}
	return s
}

func probText(p prob.Prob) string {
	s := lineText(p.Cost)
	for _, r := range p.Rows {
		s += "; " + lineText(r.Coef) + " " + strconv.Itoa(int(r.Kind)) + " " + pack.Text(r.Rhs)
	}
	return s
}

// formText is a form in words, stdText a Std.
func formText(f form) string {
	s := strconv.Itoa(len(f.rows)) + " by " + strconv.Itoa(f.n) + ":"
	for _, vs := range f.rows {
		s += " " + text(vs)
	}
	return s + " = " + text(f.b) + "; " + text(f.c) + " " + strconv.Itoa(f.own) + ints(f.left)
}

func stdText(f prob.Std) string {
	s := strconv.Itoa(f.A.Rows()) + " by " + strconv.Itoa(f.A.Cols()) + ":"
	for r := range f.A.Rows() {
		vs, _ := f.A.Row(r)
		s += " " + lineText(vs)
	}
	return s + " = " + lineText(f.B) + "; " + lineText(f.C) + " " + strconv.Itoa(f.Own) + ints(f.Left)
}

// startText is a start in words, begunText a Start.
func startText(s start) string {
	return formText(s.form) + ints(s.signs) + strconv.Itoa(s.first)
}

func begunText(s primal.Start) string {
	return stdText(s.Std) + ints(s.Signs) + strconv.Itoa(s.Own)
}

// resultText is a Result in words.
func resultText(r primal.Result) string {
	return strconv.Itoa(int(r.Outcome)) + lineText(r.Point) + lineText(r.Duals) + lineText(r.Ray) + strconv.Itoa(r.Pivots)
}

// answerText is what a Result is to be, in words.
func answerText(a answer) string {
	return strconv.Itoa(int(a.outcome)) + text(a.point) + text(a.duals) + text(a.ray) + strconv.Itoa(a.made)
}

// tabText is what a Tab tells, in words; boardText what a Tab of this board is to tell.
func tabText(x *tab.Tab) string {
	return ints(x.Basis()) + lineText(x.Values()) + lineText(x.Point())
}

func boardText(x *board, n int) string {
	values := filled(len(x.cols), func(k int) *big.Rat { return x.lines[k][n] })
	return ints(x.cols) + text(values) + text(x.point(n))
}

// filled are n fractions that v tells.
func filled(n int, v func(i int) *big.Rat) row {
	all := row{}
	for i := range n {
		all = append(all, v(i))
	}
	return all
}

// noughts are n of 0; unit is these with 1 at a place; numbers are n that differ.
func noughts(n int) row {
	return filled(n, func(i int) *big.Rat { return new(big.Rat) })
}

func unit(n, k int) row {
	all := noughts(n)
	all[k].SetInt64(1)
	return all
}

func numbers(n int) row {
	return filled(n, func(i int) *big.Rat { return big.NewRat(int64(3*i-40), int64(7+i%2)) })
}

// neg are all with the other sign; picked are some at some places.
func neg(vs row) row {
	return filled(len(vs), func(i int) *big.Rat { return new(big.Rat).Neg(vs[i]) })
}

func picked(vs row, at []int) row {
	return filled(len(at), func(k int) *big.Rat { return vs[at[k]] })
}

// dot is the sum of the products of both.
func dot(a, b row) *big.Rat {
	sum := new(big.Rat)
	for i, v := range a {
		sum.Add(sum, new(big.Rat).Mul(v, b[i]))
	}
	return sum
}

// minus is a without so often b.
func minus(a row, often *big.Rat, b row) row {
	return filled(len(a), func(i int) *big.Rat {
		return new(big.Rat).Sub(a[i], new(big.Rat).Mul(often, b[i]))
	})
}

// below tells whether one is below 0.
func below(vs row) bool {
	return slices.ContainsFunc(vs, func(v *big.Rat) bool { return v.Sign() < 0 })
}

// column is one of A's.
func (f form) column(j int) row {
	return filled(len(f.rows), func(r int) *big.Rat { return f.rows[r][j] })
}

// standard is a task as a form.
func standard(p task) form {
	f := form{n: len(p.cost), own: len(p.cost), b: row{}}
	for _, b := range p.bonds {
		f.left = append(f.left, -1)
		if b.kind != api.Eq {
			f.left[len(f.left)-1] = f.n
			f.n++
		}
	}
	f.c = append(slices.Clone(p.cost), noughts(f.n-f.own)...)
	for k, b := range p.bonds {
		vs := append(slices.Clone(b.coef), noughts(f.n-f.own)...)
		switch b.kind {
		case api.Le:
			vs[f.left[k]].SetInt64(1)
		case api.Ge:
			vs[f.left[k]].SetInt64(-1)
		}
		f.rows, f.b = append(f.rows, vs), append(f.b, b.rhs)
	}
	return f
}

// started is what Begin is to make of a form.
func started(f form) start {
	m := len(f.rows)
	s := start{form{n: f.n + m, c: append(slices.Clone(f.c), noughts(m)...), own: f.own, left: f.left}, nil, f.n}
	for k, vs := range f.rows {
		sign, b := 1, f.b[k]
		if b.Sign() < 0 {
			sign, b, vs = -1, new(big.Rat).Neg(b), neg(vs)
		}
		s.signs, s.b = append(s.signs, sign), append(s.b, b)
		s.rows = append(s.rows, append(slices.Clone(vs), unit(m, k)...))
	}
	return s
}

// added are the columns that were; dear is what First is to have them cost; may is May.
func (s start) added() []int {
	all := []int{}
	for j := s.first; j < s.n; j++ {
		all = append(all, j)
	}
	return all
}

func (s start) dear() row {
	c := noughts(s.n)
	for _, j := range s.added() {
		c[j].SetInt64(1)
	}
	return c
}

func (s start) may() []bool {
	all := []bool{}
	for j := range s.n {
		all = append(all, j < s.first)
	}
	return all
}

// back is y by the signs of the rows before Begin.
func (s start) back(y row) row {
	return filled(len(y), func(k int) *big.Rat {
		if k < len(s.signs) && s.signs[k] < 0 {
			return new(big.Rat).Neg(y[k])
		}
		return y[k]
	})
}

// laid is the board of a form by some columns; nil, if these are no basis.
func laid(f form, cols []int) *board {
	x := &board{cols: slices.Clone(cols)}
	for r, vs := range f.rows {
		x.lines = append(x.lines, append(slices.Clone(vs), f.b[r]))
	}
	for k, j := range cols {
		r := slices.IndexFunc(x.lines[k:], func(vs row) bool { return vs[j].Sign() != 0 })
		if r < 0 {
			return nil
		}
		x.lines[k], x.lines[k+r] = x.lines[k+r], x.lines[k]
		x.clear(k, j)
	}
	return x
}

// clear makes column j that of 1 at k alone, and has it stand there.
func (x *board) clear(k, j int) {
	lead := x.lines[k][j]
	x.lines[k] = filled(len(x.lines[k]), func(i int) *big.Rat { return new(big.Rat).Quo(x.lines[k][i], lead) })
	for r, vs := range x.lines {
		if r != k {
			x.lines[r] = minus(vs, vs[j], x.lines[k])
		}
	}
	x.cols[k] = j
}

// copied is a board of its own.
func (x *board) copied() *board {
	return &board{slices.Clone(x.lines), slices.Clone(x.cols)}
}

// point is what each of n columns has.
func (x *board) point(n int) row {
	all := noughts(n)
	for k, j := range x.cols {
		all[j] = x.lines[k][n]
	}
	return all
}

// prices are what the columns cost above what they make of the basis.
func (x *board) prices(c row) row {
	all := c
	for k, j := range x.cols {
		all = minus(all, c[j], x.lines[k][:len(c)])
	}
	return all
}

// enters is the column that Enter is to tell.
func enters(prices row, may []bool) int {
	for j, price := range prices {
		if j < len(may) && may[j] && price.Sign() < 0 {
			return j
		}
	}
	return -1
}

// leaves is the place that is to be left for column j of n.
func (x *board) leaves(j, n int) int {
	var places []int
	for k, vs := range x.lines {
		if vs[j].Sign() > 0 {
			places = append(places, k)
		}
	}
	if len(places) == 0 {
		return -1
	}
	return slices.MinFunc(places, func(a, b int) int {
		// a by b is below c by d, where b and d are above 0, if a times d is below c times b.
		order := new(big.Rat).Mul(x.lines[a][n], x.lines[b][j]).Cmp(new(big.Rat).Mul(x.lines[b][n], x.lines[a][j]))
		if order == 0 {
			return x.cols[a] - x.cols[b]
		}
		return order
	})
}

// run is what Run is to do and tell: its column, its pivots, and whether the budget was spent.
func (x *board) run(c row, may []bool, budget int) (int, int, bool) {
	for made := 0; ; made++ {
		j := enters(x.prices(c), may)
		if j < 0 {
			return -1, made, false
		}
		k := x.leaves(j, len(c))
		if k < 0 {
			return j, made, false
		}
		if made >= budget {
			return -1, made, true
		}
		x.clear(k, j)
	}
}

// drive is what Drive is to do and tell.
func (x *board) drive(s start, budget int) (int, bool) {
	made := 0
	for k, was := range slices.Clone(x.cols) {
		if was < s.first {
			continue
		}
		j := slices.IndexFunc(x.lines[k][:s.first], func(v *big.Rat) bool { return v.Sign() != 0 })
		if j < 0 {
			continue
		}
		if made >= budget {
			return made, true
		}
		x.clear(k, j)
		made++
	}
	return made, false
}

// duals are what the rows are worth by c: what is missing at the columns of 1 that were added.
func (x *board) duals(s start, c row) row {
	prices := x.prices(c)
	return filled(len(s.rows), func(k int) *big.Rat {
		return new(big.Rat).Sub(c[s.first+k], prices[s.first+k])
	})
}

// ray is what Ray is to tell of a column.
func (x *board) ray(s start, j int) row {
	if j < 0 || j >= s.n {
		return row{}
	}
	all := unit(s.n, j)
	for k, i := range x.cols {
		all[i] = new(big.Rat).Sub(all[i], x.lines[k][j])
	}
	return all[:s.own]
}

// feasible is what Feasible is to tell.
func (s start) feasible(budget int) phase {
	x, c := laid(s.form, s.added()), s.dear()
	_, made, spent := x.run(c, s.may(), budget)
	if spent {
		return phase{made: made, spent: made}
	}
	if dot(c, x.point(s.n)).Sign() > 0 {
		return phase{duals: s.back(x.duals(s, c)), made: made, spent: -1}
	}
	more, spent := x.drive(s, budget-made)
	if spent {
		return phase{made: made + more, spent: more}
	}
	return phase{board: x, made: made + more, spent: -1}
}

// solved is what Solve is to tell of a task in which nothing is wrong.
func solved(p task, budget int) answer {
	s := started(standard(p))
	f := s.feasible(budget)
	if f.spent >= 0 {
		return answer{spent: f.spent}
	}
	if f.board == nil {
		return answer{outcome: api.Infeasible, duals: f.duals, made: f.made, spent: -1}
	}
	j, made, spent := f.board.run(s.c, s.may(), budget-f.made)
	if spent {
		return answer{spent: made}
	}
	a := answer{outcome: api.Optimal, point: f.board.point(s.n)[:s.own], made: f.made + made, spent: -1}
	if j < 0 {
		a.duals = s.back(f.board.duals(s, s.c))
	} else {
		a.outcome, a.ray = api.Unbounded, f.board.ray(s, j)
	}
	return a
}

// corners looks at all z, none below 0, by which rows make b, and of which the
// columns that are not 0 there are independent: if any z is so, one of these is.
func corners(rows []row, n int, b row, do func(z row)) {
	for set := range 1 << n {
		var cols []int
		for j := range n {
			if set>>j&1 == 1 {
				cols = append(cols, j)
			}
		}
		if z := only(rows, n, b, cols); z != nil && !below(z) {
			do(z)
		}
	}
}

// only is the one z that is not 0 at these columns alone, and by which rows make b; nil, if there is none, or more than one.
func only(rows []row, n int, b row, cols []int) row {
	if len(cols) > len(rows) {
		return nil
	}
	x := board{}
	for r, vs := range rows {
		x.lines = append(x.lines, append(picked(vs, cols), b[r]))
	}
	x.cols = make([]int, len(rows))
	for k := range cols {
		r := slices.IndexFunc(x.lines[k:], func(vs row) bool { return vs[k].Sign() != 0 })
		if r < 0 {
			return nil
		}
		x.lines[k], x.lines[k+r] = x.lines[k+r], x.lines[k]
		x.clear(k, k)
	}
	z := noughts(n)
	for k, vs := range x.lines {
		if k < len(cols) {
			z[cols[k]] = vs[len(cols)]
		} else if vs[len(cols)].Sign() != 0 {
			return nil
		}
	}
	return z
}

// truth is what comes of a task, as all bases of its form show it, and the least cost, if there is one.
func truth(p task) (api.Outcome, *big.Rat) {
	f := standard(p)
	var least *big.Rat
	corners(f.rows, f.n, f.b, func(z row) {
		if cost := dot(f.c, z); least == nil || cost.Cmp(least) < 0 {
			least = cost
		}
	})
	if least == nil {
		return api.Infeasible, nil
	}
	// Where to a point can go for ever: no row changes, and all that rises makes 1.
	ones := filled(f.n, func(i int) *big.Rat { return big.NewRat(1, 1) })
	endless := false
	corners(append(slices.Clone(f.rows), ones), f.n, append(noughts(len(f.rows)), big.NewRat(1, 1)), func(z row) {
		endless = endless || dot(f.c, z).Sign() < 0
	})
	if endless {
		return api.Unbounded, nil
	}
	return api.Optimal, least
}

// holds tells whether a bond lets x be.
func (b bond) holds(x row) bool {
	sign := dot(b.coef, x).Cmp(b.rhs)
	return b.kind == api.Le && sign != 1 || b.kind == api.Ge && sign != -1 || b.kind == api.Eq && sign == 0
}

// fits tells whether all bonds do, and none of x is below 0.
func (p task) fits(x row) bool {
	loose := func(b bond) bool { return !b.holds(x) }
	return len(x) == len(p.cost) && !below(x) && !slices.ContainsFunc(p.bonds, loose)
}

// homeless is the task with all bonds held against 0, as directions are.
func (p task) homeless() task {
	q := task{cost: p.cost}
	for _, b := range p.bonds {
		q.bonds = append(q.bonds, bond{b.coef, b.kind, new(big.Rat)})
	}
	return q
}

// signed tells whether so often each bond still is one that holds: none with the wrong sign.
func (p task) signed(y row) bool {
	for k, b := range p.bonds {
		if b.kind == api.Le && y[k].Sign() > 0 || b.kind == api.Ge && y[k].Sign() < 0 {
			return false
		}
	}
	return len(y) == len(p.bonds)
}

// summed is the sum of the bonds, each so often: of their coefs and of what they are held against.
func (p task) summed(y row) (row, *big.Rat) {
	coef, rhs := noughts(len(p.cost)), new(big.Rat)
	for k, b := range p.bonds {
		coef = minus(coef, new(big.Rat).Neg(y[k]), b.coef)
		rhs.Add(rhs, new(big.Rat).Mul(y[k], b.rhs))
	}
	return coef, rhs
}

// refutes tells whether y shows that nothing fits; bounds whether y shows that nothing costs less than this.
func (p task) refutes(y row) bool {
	coef, rhs := p.summed(y)
	return p.signed(y) && !below(neg(coef)) && rhs.Sign() > 0
}

func (p task) bounds(y row, least *big.Rat) bool {
	coef, rhs := p.summed(y)
	return p.signed(y) && !below(minus(p.cost, big.NewRat(1, 1), coef)) && rhs.Cmp(least) == 0
}

// shows fails the test, if what is told of a task does not show itself to be so.
func shows(t *testing.T, p task, r primal.Result) {
	t.Helper()
	x, y, ray := back(r.Point), back(r.Duals), back(r.Ray)
	ok := false
	switch r.Outcome {
	case api.Optimal:
		ok = p.fits(x) && len(y) == len(p.bonds) && p.bounds(y, dot(p.cost, x)) && len(ray) == 0
	case api.Infeasible:
		ok = len(x) == 0 && len(y) == len(p.bonds) && p.refutes(y) && len(ray) == 0
	case api.Unbounded:
		ok = p.fits(x) && p.homeless().fits(ray) && dot(p.cost, ray).Sign() < 0 && len(y) == 0
	}
	if !ok {
		t.Fatalf("Solve of %s is %s, which shows nothing", taskText(p), resultText(r))
	}
}

// told fails the test, if an error is not of this number at this place; "": at none.
func told(t *testing.T, what string, err error, number api.Errno, where string, at int) {
	t.Helper()
	w, k, is := api.Place(err)
	if (err == nil) != (number == api.OK) || api.Number(err) != number || is != (where != "") || w != where || k != at {
		t.Fatalf("%s: %v, of number %d at %q %d, %t; want %d at %q %d", what, err, api.Number(err), w, k, is, number, where, at)
	}
	if number != api.OK && !errors.Is(err, number) {
		t.Fatalf("%s: %v is not %v", what, err, number)
	}
}

// spent fails the test, if an error is not that of a budget spent at a pivot; -1: of none.
func spent(t *testing.T, what string, err error, at int) {
	t.Helper()
	if at < 0 {
		told(t, what, err, api.OK, "", 0)
	} else {
		told(t, what, err, api.ErrBudget, "pivot", at)
	}
}

// seen is a Tab of a form that must have these columns as a basis.
func seen(t *testing.T, f form, cols ...int) *tab.Tab {
	t.Helper()
	x, err := tab.New(std(f), cols...)
	if err != nil {
		t.Fatalf("New of %s and %s: %v", formText(f), ints(cols), err)
	}
	return x
}

// begun is Begin of a form, which must be as the document says.
func begun(t *testing.T, f form) primal.Start {
	t.Helper()
	a := std(f)
	s, err := primal.Begin(a)
	told(t, "Begin of "+formText(f), err, api.OK, "", 0)
	if stdText(a) != formText(f) {
		t.Fatalf("Begin has made %s of %s", stdText(a), formText(f))
	}
	if got, want := begunText(s), startText(started(f)); got != want {
		t.Fatalf("Begin of %s is %s; want %s", formText(f), got, want)
	}
	return s
}

// all are so many of true.
func all(n int) []bool {
	may := make([]bool, n)
	for j := range may {
		may[j] = true
	}
	return may
}

// ran has Run go on with a Tab and a board of the same, which must do alike; it
// tells the column and the pivots, and whether the budget was spent.
func ran(t *testing.T, f form, x *tab.Tab, b *board, c row, may []bool, budget int) (int, int, bool) {
	t.Helper()
	what := "Run of " + formText(f) + " from " + ints(b.cols) + " by " + text(c) + " and " + flags(may) + " with " + strconv.Itoa(budget)
	a, was := line(c), slices.Clone(may)
	j, made, err := primal.Run(x, a, may, budget)
	wantJ, want, over := b.run(c, may, budget)
	if lineText(a) != text(c) || !slices.Equal(may, was) {
		t.Fatalf("%s: has made %s and %s of what it was given", what, lineText(a), flags(may))
	}
	at := -1
	if over {
		at = want
	}
	spent(t, what, err, at)
	if j != wantJ || made != want {
		t.Fatalf("%s: %d, %d; want %d, %d", what, j, made, wantJ, want)
	}
	if tabText(x) != boardText(b, f.n) {
		t.Fatalf("%s: has led to %s; want %s", what, tabText(x), boardText(b, f.n))
	}
	return j, made, over
}

// memory is where the words and elements of something lie.
func memory(of any) map[uintptr]bool {
	seen := map[uintptr]bool{}
	look(reflect.ValueOf(of), seen)
	return seen
}

func look(v reflect.Value, seen map[uintptr]bool) {
	switch v.Kind() {
	case reflect.Slice:
		if v.Cap() > 0 {
			seen[v.Pointer()] = true
		}
		for i := range v.Len() {
			look(v.Index(i), seen)
		}
	case reflect.Struct:
		for i := range v.NumField() {
			look(v.Field(i), seen)
		}
	case reflect.Pointer:
		if !v.IsNil() {
			seen[v.Pointer()] = true
			look(v.Elem(), seen)
		}
	}
}

// apart fails the test, if two of what it is given lie in the same memory.
func apart(t *testing.T, what string, of ...any) {
	t.Helper()
	whose := map[uintptr]int{}
	for i, v := range of {
		for at := range memory(v) {
			if j, taken := whose[at]; taken {
				t.Fatalf("%s: %d and %d share memory", what, j, i)
			}
			whose[at] = i
		}
	}
}

// overwrite puts something else into each element, and behind the last one.
func overwrite(as ...vec.Vec) {
	for _, a := range as {
		for i := range a {
			a[i] = rat.Int(99)
		}
		_ = append(a, rat.Int(100))
	}
}

func overwriteInts(all []int) {
	for i := range all {
		all[i] = 99
	}
	_ = append(all, 100)
}

func overwriteFlags(all []bool) {
	for i := range all {
		all[i] = !all[i]
	}
	_ = append(all, true)
}

// dice makes each number from the same start, in each run of the tests.
type dice struct{ *rand.Rand }

func rolled(seed uint64) dice {
	return dice{rand.New(rand.NewPCG(seed, 42))}
}

// row is so many fractions, many of them 0.
func (d dice) row(n int) row {
	broken := 1 + d.Int64N(3)
	return filled(n, func(i int) *big.Rat {
		if d.IntN(3) == 0 {
			return new(big.Rat)
		}
		return big.NewRat(d.Int64N(15)-7, 1+d.Int64N(broken))
	})
}

// sizes is such a row without what is below 0.
func (d dice) sizes(n int) row {
	x := d.row(n)
	for _, v := range x {
		v.Abs(v)
	}
	return x
}

// flags are n of which most are true.
func (d dice) flags(n int) []bool {
	may := make([]bool, n)
	for j := range may {
		may[j] = d.IntN(5) > 0
	}
	return may
}

// based is a form of so many rows and columns with a basis by which each value is what value tells.
func (d dice) based(m, n int, value func() *big.Rat) (form, []int) {
	for {
		f := form{n: n, own: n, left: slices.Repeat([]int{-1}, m), b: noughts(m), c: d.row(n)}
		for range m {
			f.rows = append(f.rows, d.row(n))
		}
		cols := d.Perm(n)[:m]
		for _, j := range cols {
			f.b = minus(f.b, new(big.Rat).Neg(value()), f.column(j))
		}
		if laid(f, cols) != nil {
			return f, cols
		}
	}
}

// task is one of so many numbers and bonds: with bonds that hang on others, some of these; often one that something fits.
func (d dice) task(cols, rows int) task {
	p := task{cost: d.row(cols)}
	x := d.sizes(cols)
	fits := d.IntN(3) > 0
	for k := range rows {
		b := bond{coef: d.row(cols), kind: kinds[d.IntN(3)]}
		if k > 0 && d.IntN(5) == 0 {
			b.coef = minus(noughts(cols), big.NewRat(d.Int64N(5)-2, 1+d.Int64N(2)), p.bonds[k-1].coef)
		}
		b.rhs = big.NewRat(d.Int64N(15)-7, 1+d.Int64N(2))
		if fits {
			b.rhs = dot(b.coef, x)
		}
		if fits && d.IntN(2) == 0 {
			// Room on the side where the bond leaves some.
			b.rhs = new(big.Rat).Add(b.rhs, big.NewRat(map[api.Kind]int64{api.Le: 1, api.Ge: -1}[b.kind]*d.Int64N(4), 1))
		}
		p.bonds = append(p.bonds, b)
	}
	return p
}

// tuples has something done with all lists of m from low up to below high.
func tuples(m, low, high int, do func(all []int)) {
	all := make([]int, m)
	for i := range all {
		all[i] = low
	}
	for {
		do(slices.Clone(all))
		k := 0
		for k < m && all[k] == high-1 {
			all[k] = low
			k++
		}
		if k == m {
			return
		}
		all[k]++
	}
}

// outside are some places that n do not have.
func outside(n int) []int {
	return []int{-1, n, n + 1, -n - 1, n + 64, math.MinInt, math.MaxInt}
}

// example is that of the chapters; beale and kuhn go round without an end by
// other choices of columns; hung hangs: its last row is the sum of the others.
const (
	example = "1 1; 1 2 >= 4; 3 1 <= 9"
	beale   = "-3/4 150 -1/50 6; 1/4 -60 -1/25 9 <= 0; 1/2 -90 -1/50 3 <= 0; 0 0 1 0 <= 1"
	kuhn    = "-2 -3 1 12; -2 -9 1 9 <= 0; 1/3 1 -1/3 -2 <= 0; 2 3 -1 -12 <= 2"
	hung    = "1 2 3; 1 1 0 = 2; 0 1 1 = 3; 1 2 1 = 5"
	long    = "36893488147419103235/7 -1/18446744073709551617; 1 18446744073709551617 >= 36893488147419103235/7; 5 -1/18446744073709551616 <= 340282366920938463463374607431768211457"
)

// circle is a form, and some of its columns by which values are below 0, from
// which Run comes back to columns that it has had.
func circle() (form, []int) {
	return shaped("4 4 2 1 4 -1 -3 4 -4; 1 0 0 0 -3 2 -1 2 0 = -1; 0 1 0 0 1 4 3 2 -1 = -2; 0 0 1 0 4 -4 3 2 4 = 2; 0 0 0 1 3 -1 -4 2 1 = -1"), []int{0, 1, 2, 3}
}

func TestP181EnterTable(t *testing.T) {
	yes := all(4)
	for _, c := range []struct {
		prices string
		may    []bool
		want   int
	}{
		{"1 -1 -2", []bool{true, false, true}, 2}, {"-1", nil, -1}, {"1 1 0 0", yes, -1}, {"1 1 0 -1", yes, 3},
		// the first, not the least
		{"0 -1 -5 -9", yes, 1}, {"-1/1000 -5 -9", yes, 0}, {"0 0 -1/18446744073709551617 -1", yes, 2},
		// shorter than may, longer than may
		{"1 -1", yes, 1}, {"1 1", yes, -1}, {"", yes, -1}, {"-1 -1", []bool{false, false, true}, -1}, {"1", []bool{false, true, true}, -1},
		{"1 1 -1", []bool{true, true}, -1}, {"1 -1 -1", []bool{true, true}, 1}, {"1 1 -1 -1", []bool{true, true, true}, 2}, {"-1 -1 -1", []bool{}, -1},
		// may is false
		{"-1 -1 -1 -1", []bool{false, false, false, false}, -1}, {"-1 -2 -3", []bool{false, false, true}, 2}, {"-1 2 0", []bool{false, true, true}, -1}, {"-1 2 -3", []bool{false, true, false}, -1},
		// nothing below 0
		{"0", yes, -1}, {"0 0 0 0", yes, -1}, {"1 2 3 4", yes, -1}, {"1/2 0 1/3 0", yes, -1}, {"0 0 0", []bool{false, false, false}, -1},
		// nothing at all
		{"", nil, -1}, {"", []bool{}, -1},
	} {
		prices, may := line(read(c.prices)), slices.Clone(c.may)
		if j := primal.Enter(prices, may); j != c.want {
			t.Errorf("Enter of %s and %s is %d; want %d", c.prices, flags(c.may), j, c.want)
		}
		if lineText(prices) != text(read(c.prices)) || !slices.Equal(may, c.may) {
			t.Errorf("Enter has made %s and %s of %s and %s", lineText(prices), flags(may), c.prices, flags(c.may))
		}
	}
}

// TestP181EnterEvery is of all short prices of a few numbers, and all short may.
func TestP181EnterEvery(t *testing.T) {
	few := read("0 -1 2 -1/3")
	for n := range 5 {
		tuples(n, 0, 4, func(at []int) {
			prices := picked(few, at)
			a := line(prices)
			for m := range 6 {
				tuples(m, 0, 2, func(bits []int) {
					may := make([]bool, m)
					for i, bit := range bits {
						may[i] = bit == 1
					}
					if j, want := primal.Enter(a, may), enters(prices, may); j != want {
						t.Fatalf("Enter of %s and %s is %d; want %d", text(prices), flags(may), j, want)
					}
				})
			}
		})
	}
}

func TestP181RunTable(t *testing.T) {
	const ex = "1 1 0 0; 1 2 -1 0 = 4; 3 1 0 1 = 9"
	for _, c := range []struct {
		form   string
		cols   []int
		c      string
		may    []bool
		budget int
		j      int
		made   int
		spent  int
		after  []int
	}{
		// nothing is to be gained
		{ex, []int{1, 3}, "1 1 0 0", all(4), 0, -1, 0, -1, []int{1, 3}}, {ex, []int{1, 3}, "1 1 0 0", all(4), -7, -1, 0, -1, []int{1, 3}}, {ex, []int{1, 3}, "0 0 0 0", all(4), 9, -1, 0, -1, []int{1, 3}},
		// one pivot; the budget just holds it, is one too small, and far below
		{ex, []int{1, 3}, "-1 0 0 0", all(4), 9, -1, 1, -1, []int{1, 0}}, {ex, []int{1, 3}, "-1 0 0 0", all(4), 1, -1, 1, -1, []int{1, 0}}, {ex, []int{1, 3}, "-1 0 0 0", all(4), 0, -1, 0, 0, []int{1, 3}},
		{ex, []int{1, 3}, "-1 0 0 0", all(4), -1, -1, 0, 0, []int{1, 3}}, {ex, []int{1, 3}, "-1 0 0 0", all(4), math.MinInt, -1, 0, 0, []int{1, 3}}, {ex, []int{1, 3}, "-1 0 0 0", all(4), math.MaxInt, -1, 1, -1, []int{1, 0}},
		// the column may not, for one reason or another
		{ex, []int{1, 3}, "-1 0 0 0", []bool{false, true, true, true}, 9, -1, 0, -1, []int{1, 3}}, {ex, []int{1, 3}, "-1 0 0 0", nil, 9, -1, 0, -1, []int{1, 3}}, {ex, []int{1, 3}, "-1 0 0 0", all(1), 9, -1, 1, -1, []int{1, 0}}, {ex, []int{1, 3}, "-1 0 0 0", all(99), 9, -1, 1, -1, []int{1, 0}}, {ex, []int{1, 3}, "-1 0 0 0", make([]bool, 4), 0, -1, 0, -1, []int{1, 3}},
		// the least ratio leaves: 4 by 1/2 is more than 7 by 5/2
		{ex, []int{3, 1}, "-1 0 0 0", all(4), 9, -1, 1, -1, []int{0, 1}},
		// unbounded at once, whatever the budget, and behind some pivots
		{"0 0 0; 1 -1 0 = 1", []int{0}, "0 -1 0", all(3), 9, 1, 0, -1, []int{0}}, {"0 0 0; 1 -1 0 = 1", []int{0}, "0 -1 -1", all(3), 0, 1, 0, -1, []int{0}}, {"0 0 0; 1 -1 0 = 1", []int{0}, "0 0 -1", all(3), -3, 2, 0, -1, []int{0}}, {"0 0 0; 1 -1 0 = 1", []int{0}, "0 -1 -1", []bool{true, false, true}, 0, 2, 0, -1, []int{0}},
		{"0 0 0; 1 1 -2 = 1", []int{0}, "0 -1 0", all(3), 1, 2, 1, -1, []int{1}}, {"0 0 0; 1 1 -2 = 1", []int{0}, "0 -1 0", all(3), 0, -1, 0, 0, []int{0}}, {"0 0 0; 1 1 -2 = 1", []int{0}, "0 -1 0", all(2), 1, -1, 1, -1, []int{1}},
		{"0 0 0 0; 1 1 0 0 = 1; 0 0 1 -1 = 0", []int{0, 2}, "0 -1 0 -1", all(4), 1, 3, 1, -1, []int{1, 2}}, {"0 0 0 0; 1 1 0 0 = 1; 0 0 1 -1 = 0", []int{0, 2}, "0 -1 0 -1", all(4), 0, -1, 0, 0, []int{0, 2}},
		// several could leave: the least column does, wherever it stands
		{"0 0 0; 1 0 1 = 2; 0 1 1 = 2", []int{0, 1}, "0 0 -1", all(3), 1, -1, 1, -1, []int{2, 1}}, {"0 0 0; 1 0 1 = 2; 0 1 1 = 2", []int{1, 0}, "0 0 -1", all(3), 1, -1, 1, -1, []int{1, 2}}, {"0 0 0; 1 0 1 = 2; 0 1 2 = 4", []int{1, 0}, "0 0 -1", all(3), 1, -1, 1, -1, []int{1, 2}},
		// a pivot that changes no value counts
		{"0 0 0; 1 0 1 = 0; 0 1 1 = 2", []int{0, 1}, "0 0 -1", all(3), 1, -1, 1, -1, []int{2, 1}}, {"0 0 0; 1 0 1 = 0; 0 1 1 = 2", []int{0, 1}, "0 0 -1", all(3), 0, -1, 0, 0, []int{0, 1}}, {"0 0 0; 1 0 1 = 0; 0 1 1 = 0", []int{0, 1}, "0 0 -1", all(3), 1, -1, 1, -1, []int{2, 1}},
		// no rows, no columns
		{"0 0", []int{}, "0 0", all(2), 0, -1, 0, -1, []int{}}, {"0 0", []int{}, "1 0", all(2), 0, -1, 0, -1, []int{}}, {"0 0", []int{}, "0 -1", all(2), 0, 1, 0, -1, []int{}}, {"", []int{}, "", nil, 0, -1, 0, -1, []int{}},
	} {
		f := shaped(c.form)
		x, b := seen(t, f, c.cols...), laid(f, c.cols)
		j, made, err := primal.Run(x, line(read(c.c)), c.may, c.budget)
		what := "Run of " + c.form + " from " + ints(c.cols) + " by " + c.c + " and " + flags(c.may) + " with " + strconv.Itoa(c.budget)
		spent(t, what, err, c.spent)
		if j != c.j || made != c.made || !slices.Equal(x.Basis(), c.after) {
			t.Errorf("%s: %d, %d and %s; want %d, %d and %s", what, j, made, ints(x.Basis()), c.j, c.made, ints(c.after))
		}
		ran(t, f, seen(t, f, c.cols...), b, read(c.c), c.may, c.budget)
	}
}

// TestP181RunSize hands in costs that are not as many as there are columns.
func TestP181RunSize(t *testing.T) {
	for _, c := range []struct {
		form string
		cols []int
	}{{example, []int{1, 3}}, {example, []int{0, 2}}, {"1 2", nil}, {"", nil}, {"0 0 0; 1 -1 0 = 1", []int{0}}} {
		f := shaped(c.form)
		for _, n := range []int{0, 1, 2, f.n - 1, f.n + 1, f.n + 2, 2 * f.n, 64, 65} {
			if n < 0 || n == f.n {
				continue
			}
			for _, costs := range []vec.Vec{line(noughts(n)), line(neg(unit(n+1, n))[:n]), line(numbers(n))} {
				for _, budget := range []int{0, -1, 9, math.MinInt, math.MaxInt} {
					for _, may := range [][]bool{nil, all(f.n), all(n), make([]bool, n)} {
						x := seen(t, f, c.cols...)
						was, words := tabText(x), lineText(costs)
						j, made, err := primal.Run(x, costs, may, budget)
						told(t, "Run of "+c.form+" by "+words, err, api.ErrSize, "", 0)
						if j != -1 || made != 0 || tabText(x) != was || lineText(costs) != words {
							t.Fatalf("Run of %s by %s is %d, %d, and has made %s and %s of it", c.form, words, j, made, tabText(x), lineText(costs))
						}
					}
				}
			}
		}
	}
}

// budgets has Run go from one basis with each budget up to what it takes, and
// some beyond; and with what is left behind each that was spent.
func budgets(t *testing.T, f form, cols []int, c row, may []bool) (int, int) {
	t.Helper()
	b := laid(f, cols)
	j, need, _ := ran(t, f, seen(t, f, cols...), b.copied(), c, may, math.MaxInt)
	for _, budget := range []int{math.MinInt, -1, need + 1, need + 99} {
		ran(t, f, seen(t, f, cols...), b.copied(), c, may, budget)
	}
	for budget := range need + 1 {
		x, b := seen(t, f, cols...), b.copied()
		_, made, over := ran(t, f, x, b, c, may, budget)
		if over != (budget < need) || made != budget {
			t.Fatalf("Run of %s with %d of %d: %d, %t", formText(f), budget, need, made, over)
		}
		again, rest, over := ran(t, f, x, b, c, may, need-budget)
		if again != j || rest != need-budget || over {
			t.Fatalf("Run of %s behind %d of %d: %d, %d, %t; all at once: %d", formText(f), budget, need, again, rest, over, j)
		}
	}
	return j, need
}

// TestP181RunRandom goes from bases that are feasible, often such as have many values that are 0.
func TestP181RunRandom(t *testing.T) {
	d := rolled(1)
	unbounded, bounded, most := 0, 0, 0
	for range 150 {
		m := d.IntN(5)
		few := 1 + d.Int64N(4)
		f, cols := d.based(m, m+d.IntN(6), func() *big.Rat { return big.NewRat(d.Int64N(few), 1+d.Int64N(2)) })
		may := all(f.n)
		if d.IntN(3) == 0 {
			may = d.flags(max(0, f.n+d.IntN(4)-2))
		}
		j, need := budgets(t, f, cols, f.c, may)
		if j < 0 {
			bounded++
		} else {
			unbounded++
		}
		most = max(most, need)
	}
	if unbounded < 20 || bounded < 20 || most < 5 {
		t.Error(unbounded, bounded, most)
	}
}

// TestP181RunRound is of problems that would go round for ever, if other columns were taken.
func TestP181RunRound(t *testing.T) {
	for _, s := range []string{beale, kuhn, "-10 57 9 24; 1/2 -11/2 -5/2 9 <= 0; 1/2 -3/2 -1/2 1 <= 0; 1 0 0 0 <= 1", "-1 -1 -1; 1 1 1 <= 0; 1 2 3 <= 0; 3 2 1 <= 0; 1 0 0 <= 0"} {
		f := standard(set(s))
		cols := []int{}
		for _, j := range f.left {
			cols = append(cols, j)
		}
		_, need := budgets(t, f, cols, f.c, all(f.n))
		if need < 1 {
			t.Error(s, "takes", need)
		}
		slices.Reverse(cols)
		budgets(t, f, cols, f.c, all(f.n))
	}
}

// TestP181RunBelow goes from bases that are not feasible.
func TestP181RunBelow(t *testing.T) {
	d := rolled(2)
	for range 150 {
		m := 1 + d.IntN(4)
		f, cols := d.based(m, m+d.IntN(6), func() *big.Rat { return big.NewRat(d.Int64N(7)-4, 1+d.Int64N(2)) })
		for _, budget := range []int{0, 1, 2, 3, 20} {
			ran(t, f, seen(t, f, cols...), laid(f, cols), f.c, all(f.n), budget)
		}
	}
}

// TestP181RunCircle goes from a basis that is not feasible, and from which Run
// goes round: it ends all the same, where its budget is spent.
func TestP181RunCircle(t *testing.T) {
	f, cols := circle()
	b := laid(f, cols)
	// The bases, one pivot after the other, till one of them comes again.
	bases, began := [][]int{}, -1
	for began < 0 {
		bases = append(bases, slices.Clone(b.cols))
		if _, _, over := b.run(f.c, all(f.n), 1); !over {
			t.Fatalf("%s ends in %s", formText(f), ints(b.cols))
		}
		began = slices.IndexFunc(bases, func(was []int) bool { return slices.Equal(was, b.cols) })
	}
	round := len(bases) - began
	for budget := range 10 * len(bases) {
		ran(t, f, seen(t, f, cols...), laid(f, cols), f.c, all(f.n), budget)
	}
	for i := range round {
		budget := math.MaxInt - i
		x := seen(t, f, cols...)
		j, made, err := primal.Run(x, line(f.c), all(f.n), budget)
		spent(t, "Run that goes round", err, budget)
		if want := bases[began+(budget-began)%round]; j != -1 || made != budget || !slices.Equal(x.Basis(), want) {
			t.Errorf("Run that goes round with %d: %d, %d and %s; want %s", budget, j, made, ints(x.Basis()), ints(want))
		}
	}
}

// TestP181RunKept changes what Run was given behind it, and has a copy of the Tab stay as it is.
func TestP181RunKept(t *testing.T) {
	f := standard(set(beale))
	x := seen(t, f, 4, 5, 6)
	own, c, may := x.Copy(), line(f.c), all(f.n)
	if _, _, err := primal.Run(x, c, may, 99); err != nil {
		t.Fatal(err)
	}
	apart(t, "a Tab, its costs and columns", x, c, may)
	b := laid(f, []int{4, 5, 6})
	b.run(f.c, all(f.n), 99)
	overwrite(c)
	overwriteFlags(may)
	if tabText(x) != boardText(b, f.n) {
		t.Errorf("%s; want %s", tabText(x), boardText(b, f.n))
	}
	if !slices.Equal(own.Basis(), []int{4, 5, 6}) {
		t.Error("the copy has become", ints(own.Basis()))
	}
	ran(t, f, own, laid(f, []int{4, 5, 6}), f.c, all(f.n), 99)
}

// TestP181RunLater has what a Tab tells behind Run be that of a Tab just made of the same columns.
func TestP181RunLater(t *testing.T) {
	d := rolled(3)
	for range 20 {
		f, cols := d.based(4, 9, func() *big.Rat { return big.NewRat(d.Int64N(5), 1) })
		x := seen(t, f, cols...)
		if _, _, err := primal.Run(x, line(f.c), all(f.n), 99); err != nil {
			t.Fatal(err)
		}
		y := seen(t, f, x.Basis()...)
		p, _ := x.Prices(line(f.c))
		q, _ := y.Prices(line(f.c))
		if tabText(x) != tabText(y) || !vec.Same(p, q) {
			t.Fatalf("%s: %s and %s; just made %s and %s", formText(f), tabText(x), lineText(p), tabText(y), lineText(q))
		}
		if !x.Feasible() {
			t.Fatalf("%s: %s", formText(f), tabText(x))
		}
	}
}

// tried is Begin of a Std, which is to be refused.
func tried(t *testing.T, what string, a prob.Std) {
	t.Helper()
	was := stdText(a)
	s, err := primal.Begin(a)
	told(t, what, err, api.ErrSize, "", 0)
	if s.Std.A.Rows() != 0 || s.Std.A.Cols() != 0 || len(s.Std.B) > 0 || len(s.Std.C) > 0 || s.Std.Own != 0 || len(s.Std.Left) > 0 || len(s.Signs) > 0 || s.Own != 0 {
		t.Fatalf("%s: an error, and yet %s", what, begunText(s))
	}
	if stdText(a) != was {
		t.Fatalf("%s: has made %s of %s", what, stdText(a), was)
	}
}

// sized is a form of so many rows and columns.
func sized(m, n int) form {
	f := form{n: n, b: numbers(m), c: numbers(n), own: n / 2}
	for r := range m {
		f.rows = append(f.rows, filled(n, func(c int) *big.Rat { return big.NewRat(int64(r-c), int64(1+(r+c)%3)) }))
		f.left = append(f.left, r-1)
	}
	return f
}

func TestP182BeginTable(t *testing.T) {
	for _, c := range []struct {
		p, rows, b, signs string
	}{
		{example, "[ 1 2 -1 0 1 0 ][ 3 1 0 1 0 1 ]", "[ 4 9 ]", "( 1 1 )"},
		{"1; 2 <= -3; 1 >= 1", "[ -2 -1 0 1 0 ][ 1 0 -1 0 1 ]", "[ 3 1 ]", "( -1 1 )"},
		{"1; 2 <= 0; 1 >= 0; -3 = 0", "[ 2 1 0 1 0 0 ][ 1 0 -1 0 1 0 ][ -3 0 0 0 0 1 ]", "[ 0 0 0 ]", "( 1 1 1 )"},
		{"1; 2 <= -1/3; 1 >= -7; -3/2 = -1/18446744073709551617", "[ -2 -1 0 1 0 0 ][ -1 0 1 0 1 0 ][ 3/2 0 0 0 0 1 ]", "[ 1/3 7 1/18446744073709551617 ]", "( -1 -1 -1 )"},
		{"0 0; 0 0 = -1; 0 0 = 1", "[ 0 0 1 0 ][ 0 0 0 1 ]", "[ 1 1 ]", "( -1 1 )"},
		{"; = -2; <= -3; >= 4", "[ 0 0 1 0 0 ][ -1 0 0 1 0 ][ 0 -1 0 0 1 ]", "[ 2 3 4 ]", "( -1 -1 1 )"},
		{"1 2 3", "", "[ ]", "( )"}, {"", "", "[ ]", "( )"},
	} {
		f := standard(set(c.p))
		s := begun(t, f)
		rows := ""
		for r := range s.Std.A.Rows() {
			vs, _ := s.Std.A.Row(r)
			rows += lineText(vs)
		}
		if rows != c.rows || lineText(s.Std.B) != c.b || ints(s.Signs) != c.signs {
			t.Errorf("Begin of %s is %s", c.p, begunText(s))
		}
		if s.Own != f.n || s.Std.Own != f.own || !slices.Equal(s.Std.Left, f.left) || s.Std.A.Cols() != f.n+len(f.rows) || lineText(s.Std.C) != text(append(slices.Clone(f.c), noughts(len(f.rows))...)) {
			t.Errorf("Begin of %s is %s", c.p, begunText(s))
		}
	}
}

// TestP182BeginSize is of as many rows and columns as there may be, and of one more.
func TestP182BeginSize(t *testing.T) {
	for m := range 65 {
		for _, n := range []int{0, 1, 63 - m, 64 - m, 65 - m, 64} {
			if n < 0 || n > api.MaxDim {
				continue
			}
			f := sized(m, n)
			if m+n <= api.MaxDim {
				begun(t, f)
			} else {
				tried(t, "Begin of "+strconv.Itoa(m)+" by "+strconv.Itoa(n), std(f))
			}
		}
	}
}

// TestP182BeginShort hands in B and C that are too short or too long.
func TestP182BeginShort(t *testing.T) {
	for _, size := range []struct{ m, n int }{{0, 0}, {0, 1}, {1, 0}, {1, 1}, {2, 4}, {4, 2}, {5, 5}, {20, 44}, {32, 32}, {33, 32}, {64, 64}} {
		a := std(sized(size.m, size.n))
		for _, more := range []int{-64, -2, -1, 0, 1, 2, 64} {
			for _, moreC := range []int{-64, -2, -1, 0, 1, 2, 64} {
				m, n := size.m+more, size.n+moreC
				if m < 0 || n < 0 || more == 0 && moreC == 0 {
					continue
				}
				b := prob.Std{A: a.A, B: line(numbers(m)), C: line(numbers(n)), Own: a.Own, Left: a.Left}
				tried(t, "Begin of "+stdText(b), b)
			}
		}
	}
	// As many of B as there are columns, and of C as there are rows.
	a := std(sized(2, 4))
	a.B, a.C = a.C, a.B
	tried(t, "Begin of "+stdText(a), a)
}

// TestP182BeginRandom is of standard forms of all kinds, whatever Own and Left are.
func TestP182BeginRandom(t *testing.T) {
	d := rolled(4)
	for range 300 {
		begun(t, standard(d.task(d.IntN(6), d.IntN(6))))
		f, _ := d.based(d.IntN(4), 4, func() *big.Rat { return big.NewRat(d.Int64N(9)-4, 1+d.Int64N(3)) })
		f.own, f.left = d.IntN(7), d.Perm(d.IntN(5))
		begun(t, f)
	}
	begun(t, standard(set(long)))
}

// TestP182Kept changes what Begin was given, and what it has told.
func TestP182Kept(t *testing.T) {
	f := standard(set("1 -1; 1 2 >= 4; 3 1 <= -9; 1 1 = 0"))
	a := std(f)
	s, err := primal.Begin(a)
	told(t, "Begin", err, api.OK, "", 0)
	other, err := primal.Begin(a)
	told(t, "Begin", err, api.OK, "", 0)
	apart(t, "a Std and its Starts", a, s, other)
	overwrite(a.B, a.C)
	overwriteInts(a.Left)
	if begunText(s) != startText(started(f)) {
		t.Errorf("what Begin has told has become %s", begunText(s))
	}
	overwrite(other.Std.B, other.Std.C)
	overwriteInts(other.Std.Left)
	overwriteInts(other.Signs)
	if begunText(s) != startText(started(f)) || stdText(std(f)) != formText(f) {
		t.Errorf("what Begin has told has become %s", begunText(s))
	}
	overwrite(s.Std.B, s.Std.C)
	overwriteInts(s.Std.Left)
	overwriteInts(s.Signs)
	if vs, _ := a.A.Row(1); lineText(vs) != text(f.rows[1]) || lineText(a.B) != "[ 99 99 99 ]" {
		t.Errorf("what Begin was given has become %s", stdText(a))
	}
}

// starts are some forms, as Begin makes them.
func starts() []form {
	all := []form{sized(0, 0), sized(0, 3), sized(3, 0), sized(1, 1), sized(2, 5), sized(5, 2), sized(20, 44), sized(64, 0), sized(0, 64), sized(32, 32)}
	for _, s := range []string{example, beale, kuhn, hung, long, "1; 2 <= -3; 1 >= 1", "; = -2; <= -3; >= 4", "1 1; 1 1 = -3; -2 -2 = 6", "1"} {
		all = append(all, standard(set(s)))
	}
	return all
}

func TestP182First(t *testing.T) {
	for _, f := range starts() {
		s, want := begun(t, f), started(f)
		x, c := s.First()
		if x == nil || !slices.Equal(x.Basis(), want.added()) || lineText(c) != text(want.dear()) {
			t.Fatalf("First of %s is %s", formText(f), lineText(c))
		}
		if tabText(x) != boardText(laid(want.form, want.added()), want.n) || !x.Feasible() {
			t.Fatalf("First of %s is %s", formText(f), tabText(x))
		}
		y, e := s.First()
		may, again := s.May(), s.May()
		apart(t, "First", s, x, c, y, e, may, again)
		overwrite(c)
		overwriteFlags(may)
		if len(want.rows) > 0 && want.first > 0 {
			// Whatever becomes of the one, the other stays.
			s.Drive(x, 1)
		}
		if !slices.Equal(y.Basis(), want.added()) || lineText(e) != text(want.dear()) || !slices.Equal(again, want.may()) || begunText(s) != startText(want) {
			t.Fatalf("First of %s has become %s, %s, May %s", formText(f), tabText(y), lineText(e), flags(again))
		}
		if prices, ok := y.Prices(e); !ok || len(prices) != want.n {
			t.Fatalf("First of %s has %d prices", formText(f), len(prices))
		}
	}
}

// TestP182FirstPrices asks what First is good for: its costs are those of what was added.
func TestP182FirstPrices(t *testing.T) {
	s := begun(t, standard(set("1; 2 <= -3; 1 >= 1")))
	x, c := s.First()
	if got := lineText(x.Point()) + lineText(c); got != "[ 0 0 0 3 1 ][ 0 0 0 1 1 ]" {
		t.Error(got)
	}
	if p, _ := x.Prices(c); lineText(p) != "[ 1 1 1 0 0 ]" {
		t.Error(lineText(p))
	}
}

func TestP182May(t *testing.T) {
	for _, f := range starts() {
		s, want := begun(t, f), started(f)
		if may := s.May(); !slices.Equal(may, want.may()) || len(may) != f.n+len(f.rows) {
			t.Errorf("May of %s is %s", formText(f), flags(may))
		}
	}
	if may := flags(begun(t, standard(set(example))).May()); may != "( t t t t f f )" {
		t.Error("May is", may)
	}
}

func TestP182Back(t *testing.T) {
	for _, f := range starts() {
		s, want := begun(t, f), started(f)
		m := len(f.rows)
		for _, n := range []int{0, 1, m - 1, m, m + 1, m + 2, 2 * m, 64, 65, 99} {
			if n < 0 {
				continue
			}
			for _, y := range []row{noughts(n), numbers(n), neg(numbers(n)), filled(n, func(i int) *big.Rat { return big.NewRat(1, 1) })} {
				a := line(y)
				b := s.Back(a)
				if lineText(b) != text(want.back(y)) || lineText(a) != text(y) {
					t.Fatalf("Back of %s by %s is %s, and has made %s of it", text(y), ints(s.Signs), lineText(b), lineText(a))
				}
				apart(t, "Back", s, a, b)
				overwrite(b)
				if lineText(a) != text(y) || begunText(s) != startText(want) {
					t.Fatalf("Back of %s has become %s by %s", text(y), lineText(a), begunText(s))
				}
			}
		}
	}
	s := begun(t, standard(set("1; 2 <= -3; 1 >= 1; 1 = 0; 1 = -1")))
	for _, c := range []struct{ y, want string }{
		{"2 5 7 8", "[ -2 5 7 -8 ]"}, {"2 5", "[ -2 5 ]"}, {"", "[ ]"}, {"-1/2 -5 0 0 -9 9", "[ 1/2 -5 0 0 -9 9 ]"}, {"3 3 3 3 3", "[ -3 3 3 -3 3 ]"},
	} {
		if y := lineText(s.Back(line(read(c.y)))); y != c.want {
			t.Errorf("Back of %s is %s; want %s", c.y, y, c.want)
		}
	}
}

// drove has Drive go on with a Tab and a board of the same, which must do alike; it
// tells the pivots, and whether the budget was spent.
func drove(t *testing.T, s primal.Start, want start, x *tab.Tab, b *board, budget int) (int, bool) {
	t.Helper()
	what := "Drive of " + startText(want) + " from " + ints(b.cols) + " with " + strconv.Itoa(budget)
	made, err := s.Drive(x, budget)
	wantMade, over := b.drive(want, budget)
	at := -1
	if over {
		at = wantMade
	}
	spent(t, what, err, at)
	if made != wantMade || tabText(x) != boardText(b, want.n) {
		t.Fatalf("%s: %d and %s; want %d and %s", what, made, tabText(x), wantMade, boardText(b, want.n))
	}
	if begunText(s) != startText(want) {
		t.Fatalf("%s: the Start has become %s", what, begunText(s))
	}
	return made, over
}

// drives has Drive go from one basis with each budget up to what it takes, and
// some beyond; and with what is left behind each that was spent.
func drives(t *testing.T, f form, cols []int) int {
	t.Helper()
	s, want := begun(t, f), started(f)
	b := laid(want.form, cols)
	need, over := drove(t, s, want, seen(t, want.form, cols...), b.copied(), math.MaxInt)
	if over {
		t.Fatalf("Drive of %s is never done", formText(f))
	}
	for _, budget := range []int{math.MinInt, -1, need + 1, need + 99} {
		drove(t, s, want, seen(t, want.form, cols...), b.copied(), budget)
	}
	for budget := range need + 1 {
		x, b := seen(t, want.form, cols...), b.copied()
		if made, over := drove(t, s, want, x, b, budget); made != budget || over != (budget < need) {
			t.Fatalf("Drive of %s with %d of %d: %d, %t", formText(f), budget, need, made, over)
		}
		if rest, over := drove(t, s, want, x, b, need-budget); rest != need-budget || over {
			t.Fatalf("Drive of %s behind %d of %d: %d, %t", formText(f), budget, need, rest, over)
		}
	}
	return need
}

func TestP182DriveTable(t *testing.T) {
	const two = "1 2; 1 1 = 3; 2 2 = 6"
	const three = "0 0; 1 0 = 1; 0 1 = 1; 1 1 = 2"
	for _, c := range []struct {
		p      string
		cols   []int
		budget int
		made   int
		spent  int
		after  []int
	}{
		// rows that hang on others: what was added stays in one
		{two, []int{2, 3}, 9, 1, -1, []int{0, 3}}, {two, []int{3, 2}, 9, 1, -1, []int{0, 2}}, {two, []int{2, 3}, 1, 1, -1, []int{0, 3}}, {two, []int{2, 3}, 0, 0, 0, []int{2, 3}}, {two, []int{2, 3}, -1, 0, 0, []int{2, 3}}, {two, []int{2, 3}, math.MinInt, 0, 0, []int{2, 3}},
		{two, []int{0, 3}, 0, 0, -1, []int{0, 3}}, {two, []int{0, 3}, -9, 0, -1, []int{0, 3}}, {two, []int{2, 1}, 9, 0, -1, []int{2, 1}}, {two, []int{2, 0}, 0, 0, -1, []int{2, 0}},
		{three, []int{2, 3, 4}, 9, 2, -1, []int{0, 1, 4}}, {three, []int{2, 3, 4}, 2, 2, -1, []int{0, 1, 4}}, {three, []int{2, 3, 4}, 1, 1, 1, []int{0, 3, 4}}, {three, []int{2, 3, 4}, 0, 0, 0, []int{2, 3, 4}}, {three, []int{4, 2, 3}, 9, 2, -1, []int{0, 1, 3}}, {three, []int{4, 2, 3}, 1, 1, 1, []int{0, 2, 3}}, {three, []int{4, 0, 3}, 9, 1, -1, []int{1, 0, 3}}, {three, []int{0, 1, 4}, 0, 0, -1, []int{0, 1, 4}},
		// nothing hangs: all that was added goes, and the column's sign is no matter
		{"0 0; -1 0 = 0; 0 -1 = 0", []int{2, 3}, 9, 2, -1, []int{0, 1}}, {"0 0; 0 -1 = 0; -1 0 = 0", []int{2, 3}, 9, 2, -1, []int{1, 0}}, {"0 0; 0 -1/2 = 5; 1/3 7 = 1", []int{3, 2}, 9, 2, -1, []int{0, 1}},
		// what a row is by the pivots before counts, not what it was
		{"0 0; 1 1 = 0; 1 2 = 0", []int{2, 3}, 9, 2, -1, []int{0, 1}}, {"0 0 0; 1 1 1 = 0; 1 1 2 = 0", []int{3, 4}, 9, 2, -1, []int{0, 2}},
		// the first own column that will do, slacks, too; none of those that were added
		{"5; 0 <= 0", []int{2}, 9, 1, -1, []int{1}}, {"5; 1 <= 0", []int{2}, 9, 1, -1, []int{0}}, {"5; 0 = 0", []int{1}, 9, 0, -1, []int{1}}, {"5; 0 = 0; 0 = 0", []int{2, 1}, 0, 0, -1, []int{2, 1}},
		{example, []int{4, 5}, 9, 2, -1, []int{0, 1}}, {example, []int{4, 3}, 9, 1, -1, []int{0, 3}}, {example, []int{1, 5}, 9, 1, -1, []int{1, 0}}, {example, []int{1, 0}, 0, 0, -1, []int{1, 0}}, {example, []int{0, 5}, 1, 1, -1, []int{0, 1}}, {example, []int{5, 4}, 1, 1, 1, []int{0, 4}},
		// no rows, no columns
		{"1 2", []int{}, 0, 0, -1, []int{}}, {"", []int{}, -1, 0, -1, []int{}}, {"; = 3; = 0", []int{0, 1}, 0, 0, -1, []int{0, 1}}, {"; = 3; <= 0", []int{1, 2}, 1, 1, -1, []int{1, 0}}, {"; = 3; <= 0", []int{1, 2}, 0, 0, 0, []int{1, 2}},
	} {
		f := standard(set(c.p))
		s, want := begun(t, f), started(f)
		x := seen(t, want.form, c.cols...)
		made, err := s.Drive(x, c.budget)
		what := "Drive of " + c.p + " from " + ints(c.cols) + " with " + strconv.Itoa(c.budget)
		spent(t, what, err, c.spent)
		if made != c.made || !slices.Equal(x.Basis(), c.after) {
			t.Errorf("%s: %d and %s; want %d and %s", what, made, ints(x.Basis()), c.made, ints(c.after))
		}
		drove(t, s, want, seen(t, want.form, c.cols...), laid(want.form, c.cols), c.budget)
	}
}

// TestP182DriveEvery drives from every basis of some problems.
func TestP182DriveEvery(t *testing.T) {
	for _, p := range []string{example, hung, "1 2; 1 1 = 3; 2 2 = 6", "0 1; 1 0 = -1; 1 1 >= -1; 2 1 <= 0", "0 0; 1 -1 = 0; -1 1 = 0", "; = 1; = 0"} {
		f := standard(set(p))
		want := started(f)
		tuples(len(f.rows), 0, want.n, func(cols []int) {
			if laid(want.form, cols) != nil {
				drives(t, f, cols)
			}
		})
	}
}

func TestP182DriveRandom(t *testing.T) {
	d := rolled(5)
	least, most := 99, 0
	for range 60 {
		f := standard(d.task(d.IntN(5), 1+d.IntN(5)))
		want := started(f)
		cols := d.Perm(want.n)[:len(f.rows)]
		if laid(want.form, cols) == nil {
			cols = want.added()
		}
		need := drives(t, f, cols)
		least, most = min(least, need), max(most, need)
	}
	if least > 0 || most < 4 {
		t.Error(least, most)
	}
}

// TestP182DriveGreat drives all that was added out of as many rows as there may be.
func TestP182DriveGreat(t *testing.T) {
	f := sized(20, 44)
	for r, vs := range f.rows {
		for c := range vs {
			vs[c] = big.NewRat(int64(max(0, 5-(c-r)*(c-r))), 1)
		}
	}
	s, want := begun(t, f), started(f)
	x, b := seen(t, want.form, want.added()...), laid(want.form, want.added())
	if made, over := drove(t, s, want, x, b, 7); made != 7 || !over {
		t.Error(made, over)
	}
	if made, over := drove(t, s, want, x, b, 99); made != 13 || over {
		t.Error(made, over)
	}
}

// rays asks for the Ray of each column that there is, and of some that there are not.
func rays(t *testing.T, f form, s primal.Start, x *tab.Tab, b *board) {
	t.Helper()
	want := started(f)
	was := tabText(x)
	for j := range want.n {
		a := s.Ray(x, j)
		if lineText(a) != text(b.ray(want, j)) {
			t.Fatalf("Ray %d of %s by %s is %s; want %s", j, formText(f), ints(b.cols), lineText(a), text(b.ray(want, j)))
		}
		if slices.Contains(b.cols, j) && !a.Zero() {
			t.Fatalf("Ray %d of %s by %s is %s, though it is of the basis", j, formText(f), ints(b.cols), lineText(a))
		}
		apart(t, "Ray", s, x, a)
		overwrite(a)
	}
	for _, j := range outside(want.n) {
		if a := s.Ray(x, j); len(a) > 0 {
			t.Fatalf("Ray %d of %s by %s is %s", j, formText(f), ints(b.cols), lineText(a))
		}
	}
	if tabText(x) != was || begunText(s) != startText(want) {
		t.Fatalf("Ray has made %s of %s, or %s of %s", tabText(x), was, begunText(s), startText(want))
	}
}

func TestP182RayTable(t *testing.T) {
	for _, c := range []struct {
		p    string
		cols []int
		j    int
		want string
	}{
		{example, []int{4, 5}, 0, "[ 1 0 ]"}, {example, []int{4, 5}, 1, "[ 0 1 ]"}, {example, []int{4, 5}, 2, "[ 0 0 ]"}, {example, []int{4, 5}, 4, "[ 0 0 ]"}, {example, []int{4, 5}, 5, "[ 0 0 ]"},
		{example, []int{1, 3}, 0, "[ 1 -1/2 ]"}, {example, []int{1, 3}, 1, "[ 0 0 ]"}, {example, []int{1, 3}, 2, "[ 0 1/2 ]"}, {example, []int{1, 3}, 3, "[ 0 0 ]"}, {example, []int{1, 3}, 4, "[ 0 -1/2 ]"}, {example, []int{3, 1}, 4, "[ 0 -1/2 ]"}, {example, []int{1, 3}, 5, "[ 0 0 ]"},
		{example, []int{1, 0}, 2, "[ -1/5 3/5 ]"}, {example, []int{0, 1}, 3, "[ -2/5 1/5 ]"}, {example, []int{0, 1}, 0, "[ 0 0 ]"}, {example, []int{0, 1}, 5, "[ -2/5 1/5 ]"},
		{example, []int{1, 3}, -1, "[ ]"}, {example, []int{1, 3}, 6, "[ ]"}, {example, []int{1, 3}, math.MaxInt, "[ ]"}, {example, []int{1, 3}, math.MinInt, "[ ]"},
		{"-1", nil, 0, "[ 1 ]"}, {"-1", nil, 1, "[ ]"}, {"1 2 3", nil, 1, "[ 0 1 0 ]"}, {"", nil, 0, "[ ]"}, {"", nil, -1, "[ ]"}, {"; <= 3; = 0", []int{0, 2}, 1, "[ ]"},
		{"0 0 0; 1 -1 -2 = 1", []int{0}, 1, "[ 1 1 0 ]"}, {"0 0 0; 1 -1 -2 = 1", []int{0}, 2, "[ 2 0 1 ]"}, {"0 0 0; 1 -1 -2 = -1", []int{0}, 2, "[ 2 0 1 ]"}, {"0 0 0; 1 -1 -2 = -1", []int{3}, 2, "[ 0 0 1 ]"}, {"0 0; 1 -1 <= 2", []int{2}, 1, "[ 0 1 ]"},
	} {
		f := standard(set(c.p))
		s, want := begun(t, f), started(f)
		if a := s.Ray(seen(t, want.form, c.cols...), c.j); lineText(a) != c.want {
			t.Errorf("Ray %d of %s by %s is %s; want %s", c.j, c.p, ints(c.cols), lineText(a), c.want)
		}
	}
}

// TestP182RayRandom has Ray asked by many bases, behind swaps, too.
func TestP182RayRandom(t *testing.T) {
	d := rolled(6)
	for range 60 {
		f := standard(d.task(d.IntN(5), d.IntN(5)))
		if d.IntN(4) == 0 {
			f.own = d.IntN(f.n + 1)
		}
		s, want := begun(t, f), started(f)
		x, b := seen(t, want.form, want.added()...), laid(want.form, want.added())
		rays(t, f, s, x, b)
		for range 12 {
			if len(b.cols) == 0 {
				break
			}
			k, j := d.IntN(len(b.cols)), d.IntN(want.n)
			if x.Swap(k, j) == nil {
				b.clear(k, j)
				rays(t, f, s, x, b)
			}
		}
	}
}

// TestP182RayOwn is of an Own that is not a number of columns.
func TestP182RayOwn(t *testing.T) {
	for _, c := range []struct {
		own  int
		want string
	}{{0, "[ ]"}, {1, "[ 1 ]"}, {3, "[ 1 -1/2 0 ]"}, {6, "[ 1 -1/2 0 -5/2 0 0 ]"}, {7, "[ 1 -1/2 0 -5/2 0 0 ]"}, {math.MaxInt, "[ 1 -1/2 0 -5/2 0 0 ]"}, {-1, "[ ]"}, {math.MinInt, "[ ]"}} {
		f := standard(set(example))
		f.own = c.own
		s := begun(t, f)
		if a := s.Ray(seen(t, started(f).form, 1, 3), 0); lineText(a) != c.want {
			t.Errorf("Ray of Own %d is %s; want %s", c.own, lineText(a), c.want)
		}
	}
}

// TestP182Ray has a Ray change no row: what it makes of these is 0, where it goes on through all columns.
func TestP182Ray(t *testing.T) {
	d := rolled(7)
	for range 60 {
		f, cols := d.based(1+d.IntN(3), 6, func() *big.Rat { return big.NewRat(d.Int64N(5), 1) })
		s, want := begun(t, f), started(f)
		x := seen(t, want.form, cols...)
		for j := range f.n {
			ray := back(s.Ray(x, j))
			for _, vs := range f.rows {
				if len(ray) != f.n || dot(vs, ray).Sign() != 0 {
					t.Fatalf("Ray %d of %s by %s is %s", j, formText(f), ints(cols), text(ray))
				}
			}
		}
	}
}

// fits tells whether a form's rows make b by z, none of which is below 0.
func (f form) fits(z row) bool {
	for r, vs := range f.rows {
		if dot(vs, z).Cmp(f.b[r]) != 0 {
			return false
		}
	}
	return len(z) == f.n && !below(z)
}

// refutes tells whether y shows that no z fits: what y makes of each column is not above 0, and of b is.
func (f form) refutes(y row) bool {
	for j := range f.n {
		if dot(f.column(j), y).Sign() > 0 {
			return false
		}
	}
	return len(y) == len(f.rows) && dot(f.b, y).Sign() > 0
}

// can tells whether any z fits a form, as all its bases show.
func (f form) can() bool {
	some := false
	corners(f.rows, f.n, f.b, func(z row) { some = true })
	return some
}

// readied has Feasible tell what it is to tell of a form, and what comes of it show itself to be so.
func readied(t *testing.T, f form, budget int) phase {
	t.Helper()
	s, begun := begun(t, f), started(f)
	want := begun.feasible(budget)
	x, y, made, err := primal.Feasible(s, budget)
	what := "Feasible of " + formText(f) + " with " + strconv.Itoa(budget)
	spent(t, what, err, want.spent)
	if made != want.made || (x != nil) != (want.board != nil) || lineText(y) != text(want.duals) {
		t.Fatalf("%s: %t, %s, %d; want %t, %s, %d", what, x != nil, lineText(y), made, want.board != nil, text(want.duals), want.made)
	}
	if begunText(s) != startText(begun) {
		t.Fatalf("%s: has made %s of %s", what, begunText(s), startText(begun))
	}
	switch {
	case x != nil:
		z := back(x.Point())
		if tabText(x) != boardText(want.board, begun.n) || !begun.fits(z) || !f.fits(z[:f.n]) {
			t.Fatalf("%s: %s; want %s", what, tabText(x), boardText(want.board, begun.n))
		}
	case err == nil:
		if !f.refutes(back(y)) {
			t.Fatalf("%s: %s shows nothing", what, lineText(y))
		}
	}
	apart(t, what, s, x, y)
	return want
}

// readies has Feasible go with each budget up to what it takes, and some beyond.
func readies(t *testing.T, f form) phase {
	t.Helper()
	need := readied(t, f, math.MaxInt)
	for _, budget := range []int{math.MinInt, -1, need.made + 1, need.made + 99} {
		readied(t, f, budget)
	}
	for budget := range need.made {
		if less := readied(t, f, budget); less.spent < 0 || less.made != budget {
			t.Fatalf("Feasible of %s with %d of %d: %d", formText(f), budget, need.made, less.made)
		}
	}
	if whole := readied(t, f, need.made); whole.spent >= 0 || whole.made != need.made {
		t.Fatalf("Feasible of %s with %d", formText(f), need.made)
	}
	return need
}

func TestP183Table(t *testing.T) {
	for _, c := range []struct {
		p      string
		budget int
		made   int
		spent  int
		cols   []int
		duals  string
	}{
		{example, 99, 2, -1, []int{1, 0}, "[ ]"}, {example, 2, 2, -1, []int{1, 0}, "[ ]"}, {example, 1, 1, 1, nil, "[ ]"}, {example, 0, 0, 0, nil, "[ ]"}, {example, -5, 0, 0, nil, "[ ]"},
		// nothing fits, whatever the sign of b is; no pivot is needed to see it, or some are
		{"0; 1 <= -1", 99, 0, -1, nil, "[ -1 ]"}, {"0; 1 <= -1", 0, 0, -1, nil, "[ -1 ]"}, {"0; 1 <= -1", -1, 0, -1, nil, "[ -1 ]"}, {"0; -1 >= 1", 0, 0, -1, nil, "[ 1 ]"}, {"0; 0 = 2", 0, 0, -1, nil, "[ 1 ]"}, {"0; 0 = -2", 0, 0, -1, nil, "[ -1 ]"},
		{"0; 1 = 1; 1 = 2", 99, 1, -1, nil, "[ -1 1 ]"}, {"0; 1 = 1; 1 = 2", 1, 1, -1, nil, "[ -1 1 ]"}, {"0; 1 = 1; 1 = 2", 0, 0, 0, nil, "[ ]"}, {"0; 1 <= 1; 1 >= 2", 99, 1, -1, nil, "[ -1 1 ]"}, {"0; -1 = -1; 1 = 2", 99, 1, -1, nil, "[ 1 1 ]"},
		// the budget is spent in Drive, which counts anew where it says at which pivot
		{"0 0; 0 1 = 0; 1 0 = 0", 99, 2, -1, []int{1, 0}, "[ ]"}, {"0 0; 0 1 = 0; 1 0 = 0", 1, 1, 1, nil, "[ ]"}, {"0 0; 0 1 = 0; 1 0 = 0", 0, 0, 0, nil, "[ ]"},
		{"0 0; 1 0 = 2; 0 -1 = 0", 99, 2, -1, []int{0, 1}, "[ ]"}, {"0 0; 1 0 = 2; 0 -1 = 0", 2, 2, -1, []int{0, 1}, "[ ]"}, {"0 0; 1 0 = 2; 0 -1 = 0", 1, 1, 0, nil, "[ ]"}, {"0 0; 1 0 = 2; 0 -1 = 0", 0, 0, 0, nil, "[ ]"},
		{"0 0 0; 1 0 0 = 2; 0 -1 0 = 0; 0 0 -1 = 0", 2, 2, 1, nil, "[ ]"}, {"0 0 0; 1 0 0 = 2; 0 -1 0 = 0; 0 0 -1 = 0", 1, 1, 0, nil, "[ ]"}, {"0 0 0; 1 0 0 = 2; 0 -1 0 = 0; 0 0 -1 = 0", 3, 3, -1, []int{0, 1, 2}, "[ ]"},
		// what was added stays where a row hangs on others
		{"1 2; 1 1 = 3; 2 2 = 6", 99, 1, -1, []int{0, 3}, "[ ]"}, {"1 2; 1 1 = 3; 2 2 = 6", 1, 1, -1, []int{0, 3}, "[ ]"}, {"1; 0 = 0", 0, 0, -1, []int{1}, "[ ]"}, {"1; 0 = 0; 0 = 0", -1, 0, -1, []int{1, 2}, "[ ]"}, {"; = 0", 0, 0, -1, []int{0}, "[ ]"}, {"; = 1", 0, 0, -1, nil, "[ 1 ]"}, {"; = -1; = 0", 0, 0, -1, nil, "[ -1 1 ]"},
		// no rows, no columns
		{"1 2", 0, 0, -1, []int{}, "[ ]"}, {"", -1, 0, -1, []int{}, "[ ]"}, {"; <= 3", 1, 1, -1, []int{0}, "[ ]"}, {"; <= 3", 0, 0, 0, nil, "[ ]"}, {"; >= 3", 9, 0, -1, nil, "[ 1 ]"},
	} {
		f := standard(set(c.p))
		s := begun(t, f)
		x, y, made, err := primal.Feasible(s, c.budget)
		what := "Feasible of " + c.p + " with " + strconv.Itoa(c.budget)
		spent(t, what, err, c.spent)
		if (x != nil) != (c.cols != nil) || lineText(y) != c.duals || made != c.made {
			t.Errorf("%s: %t, %s, %d; want %s, %s, %d", what, x != nil, lineText(y), made, ints(c.cols), c.duals, c.made)
		} else if x != nil && !slices.Equal(x.Basis(), c.cols) {
			t.Errorf("%s: %s; want %s", what, ints(x.Basis()), ints(c.cols))
		}
		readied(t, f, c.budget)
	}
}

func TestP183Problems(t *testing.T) {
	for _, s := range []string{example, beale, kuhn, hung, long, "1; 2 <= -3; 1 >= 1", "1 1; 1 1 = -3; -2 -2 = 6", "1 1; 1 1 = -3; 2 2 = 6"} {
		f := standard(set(s))
		if p := readies(t, f); (p.board != nil) != f.can() {
			t.Errorf("Feasible of %s: %t", s, p.board != nil)
		}
	}
}

func TestP183Random(t *testing.T) {
	d := rolled(8)
	yes, no, driven := 0, 0, 0
	for range 150 {
		f := standard(d.task(d.IntN(4), d.IntN(5)))
		p := readies(t, f)
		if (p.board != nil) != f.can() {
			t.Fatalf("Feasible of %s: %t", formText(f), p.board != nil)
		}
		if p.board == nil {
			no++
		} else {
			yes++
			if slices.ContainsFunc(p.board.cols, func(j int) bool { return j >= f.n }) {
				driven++
			}
		}
	}
	if yes < 30 || no < 20 || driven < 3 {
		t.Error(yes, no, driven)
	}
}

// TestP183Kept changes what Feasible has told: the next time it tells the same.
func TestP183Kept(t *testing.T) {
	for _, p := range []string{example, "0; -1 = -1; 1 = 2", hung} {
		f := standard(set(p))
		s := begun(t, f)
		x, y, made, _ := primal.Feasible(s, 99)
		words := lineText(y) + strconv.Itoa(made)
		basis := []int{}
		if x != nil {
			basis = x.Basis()
			x.Swap(0, 2)
			x.Swap(1, 0)
		}
		overwrite(y)
		x, y, made, _ = primal.Feasible(s, 99)
		if lineText(y)+strconv.Itoa(made) != words || x != nil && !slices.Equal(x.Basis(), basis) {
			t.Errorf("Feasible of %s: %s, %d; was %s", p, lineText(y), made, words)
		}
	}
}

// solve has Solve tell what it is to tell of a task, and what comes of it show itself to be so.
func solve(t *testing.T, p task, budget int) (primal.Result, answer) {
	t.Helper()
	q, want := posed(p), solved(p, budget)
	r, err := primal.Solve(q, budget)
	what := "Solve of " + taskText(p) + " with " + strconv.Itoa(budget)
	at := want.spent
	spent(t, what, err, at)
	if at >= 0 {
		want = answer{spent: at}
	}
	if resultText(r) != answerText(want) {
		t.Fatalf("%s: %s; want %s", what, resultText(r), answerText(want))
	}
	if probText(q) != taskText(p) {
		t.Fatalf("%s: has made %s of it", what, probText(q))
	}
	apart(t, what, q, r.Point, r.Duals, r.Ray)
	if at < 0 {
		shows(t, p, r)
	}
	return r, want
}

// solves has Solve go with each budget up to what it takes, and some beyond.
func solves(t *testing.T, p task) primal.Result {
	t.Helper()
	r, _ := solve(t, p, math.MaxInt)
	for _, budget := range []int{math.MinInt, -1, r.Pivots, r.Pivots + 1, r.Pivots + 99} {
		if _, a := solve(t, p, budget); (a.spent >= 0) != (max(0, budget) < r.Pivots) {
			t.Fatalf("Solve of %s with %d of %d: %d", taskText(p), budget, r.Pivots, a.spent)
		}
	}
	for budget := range r.Pivots {
		if _, a := solve(t, p, budget); a.spent < 0 {
			t.Fatalf("Solve of %s with %d of %d ends", taskText(p), budget, r.Pivots)
		}
	}
	return r
}

// trueOf fails the test, if a Result is not what all bases of a task show.
func trueOf(t *testing.T, p task, r primal.Result) {
	t.Helper()
	outcome, least := truth(p)
	if r.Outcome != outcome || least != nil && dot(p.cost, back(r.Point)).Cmp(least) != 0 {
		t.Fatalf("Solve of %s is %s; all bases show %d, %v", taskText(p), resultText(r), outcome, least)
	}
}

func TestP184Table(t *testing.T) {
	for _, c := range []struct {
		p, want string
	}{
		{example, "1[ 0 2 ][ 1/2 0 ][ ]3"},
		// infeasible
		{"0; 1 <= -1", "2[ ][ -1 ][ ]0"}, {"0; -1 >= 1", "2[ ][ 1 ][ ]0"}, {"0; 1 = 1; 1 = 2", "2[ ][ -1 1 ][ ]1"}, {"7; 0 = 1", "2[ ][ 1 ][ ]0"}, {"-7; 0 <= -1", "2[ ][ -1 ][ ]0"}, {"-7; 0 >= 1", "2[ ][ 1 ][ ]0"}, {"-1; 1 >= 5; 1 <= 4", "2[ ][ 1 -1 ][ ]1"}, {"; = 1", "2[ ][ 1 ][ ]0"}, {"; <= -1", "2[ ][ -1 ][ ]0"}, {"; >= 0; >= 2", "2[ ][ 1 1 ][ ]0"},
		// unbounded, at once and behind pivots
		{"-1", "3[ 0 ][ ][ 1 ]0"}, {"1 -1/2 -1", "3[ 0 0 0 ][ ][ 0 1 0 ]0"}, {"-1; -1 <= 1", "3[ 0 ][ ][ 1 ]1"}, {"-1; 1 >= 1", "3[ 1 ][ ][ 1 ]1"}, {"1 -2; 1 -1 = 1", "3[ 1 0 ][ ][ 1 1 ]1"}, {"-1 0; 1 -1 <= 2", "3[ 2 0 ][ ][ 1 1 ]1"}, {"0 -1; 1 0 = 3", "3[ 3 0 ][ ][ 0 1 ]1"}, {"-1; 0 = 0", "3[ 0 ][ ][ 1 ]0"},
		// one optimum
		{"1; 1 >= 2", "1[ 2 ][ 1 ][ ]1"}, {"-1; 1 <= 2", "1[ 2 ][ -1 ][ ]1"}, {"5; 2 = 3", "1[ 3/2 ][ 5/2 ][ ]1"}, {"5; -2 = -3", "1[ 3/2 ][ -5/2 ][ ]1"}, {"-3; 1/2 <= 1", "1[ 2 ][ -6 ][ ]1"}, {"1 2; 1 1 = 3; 2 2 = 6", "1[ 3 0 ][ 1 0 ][ ]1"},
		// several that cost alike
		{"0; 1 <= 2", "1[ 2 ][ 0 ][ ]1"}, {"0 0", "1[ 0 0 ][ ][ ]0"}, {"1 1; 1 1 >= 4", "1[ 4 0 ][ 1 ][ ]1"}, {"-1 -1; 1 1 <= 4", "1[ 4 0 ][ -1 ][ ]1"}, {"0 0; 1 2 = 4", "1[ 4 0 ][ 0 ][ ]1"},
		// numbers that are taken apart, as they may be below 0: x is the first less the second
		{"1 -1; 1 -1 >= -5", "1[ 0 5 ][ 1 ][ ]1"}, {"1 -1; 1 -1 = -5", "1[ 0 5 ][ 1 ][ ]1"}, {"1 -1", "3[ 0 0 ][ ][ 0 1 ]0"}, {"0 0 1; 1 -1 1 = 2", "1[ 2 0 0 ][ 0 ][ ]1"},
		// no rows, no columns
		{"", "1[ ][ ][ ]0"}, {"1 0 2", "1[ 0 0 0 ][ ][ ]0"}, {"; = 0", "1[ ][ 0 ][ ]0"}, {"; <= 3", "1[ ][ 0 ][ ]1"}, {"; >= -3", "1[ ][ 0 ][ ]1"}, {"; <= 0; >= 0; = 0", "1[ ][ 0 0 0 ][ ]2"},
	} {
		p := set(c.p)
		r, err := primal.Solve(posed(p), 99)
		told(t, "Solve of "+c.p, err, api.OK, "", 0)
		if got := resultText(r); got != c.want {
			t.Errorf("Solve of %s is %s; want %s", c.p, got, c.want)
		}
		trueOf(t, p, solves(t, p))
	}
}

// TestP184Budgets names for some problems at which pivot each budget is spent:
// where the second phase begins, it is counted from 0 again.
func TestP184Budgets(t *testing.T) {
	for _, c := range []struct {
		p     string
		spent []int
	}{
		{example, []int{0, 1, 0, -1, -1}}, {"-1; 1 <= 2", []int{0, -1}}, {"0; 1 <= -1", []int{-1}}, {"-1", []int{-1}}, {"1 -1; 1 -1 >= -5", []int{0, -1}},
		{"0 0 -1; 1 0 0 = 2; 0 -1 0 = 0; 0 0 1 <= 5", []int{0, 1, 0, -1}}, {"0 0 -1 -1; 1 0 0 0 = 2; 0 -1 0 0 = 0; 0 0 1 1 <= 0; 0 0 1 -1 >= 0", []int{0, 1, 0, 1, -1}},
	} {
		for budget, at := range c.spent {
			r, err := primal.Solve(posed(set(c.p)), budget)
			spent(t, "Solve of "+c.p+" with "+strconv.Itoa(budget), err, at)
			if err != nil && resultText(r) != "0[ ][ ][ ]0" {
				t.Errorf("Solve of %s with %d: an error, and yet %s", c.p, budget, resultText(r))
			}
		}
	}
}

// TestP184May is of problems that prob.May refuses: its error comes, whatever else is wrong.
func TestP184May(t *testing.T) {
	wide, high := task{cost: numbers(25)}, task{cost: numbers(1)}
	for range 21 {
		high.bonds = append(high.bonds, bound("1 >= 1"))
	}
	for _, c := range []struct {
		p      task
		number api.Errno
		where  string
		at     int
	}{
		{wide, api.ErrSize, "", 0}, {high, api.ErrSize, "", 0},
		{set("1 1; 1 >= 4; 3 1 <= 9"), api.ErrSize, "row", 0}, {set("1 1; 1 2 >= 4; 3 1 1 <= 9"), api.ErrSize, "row", 1}, {set("1 1; 1 2 ? 4; 3 1 <= 9"), api.ErrKind, "row", 0}, {set("1 1; 1 2 >= 4; 3 1 ? 9"), api.ErrKind, "row", 1},
		{set("1 1; 1 2 ? 4; 3 <= 9"), api.ErrKind, "row", 0}, {set("1; <= 0"), api.ErrSize, "row", 0}, {set("; ? 0"), api.ErrKind, "row", 0}, {set("-1; 0 <= -1; 0 0 = 1"), api.ErrSize, "row", 1}, {set("-1; 0 <= -1; 0 ? 1"), api.ErrKind, "row", 1},
	} {
		for _, budget := range []int{math.MinInt, -1, 0, 1, 99, math.MaxInt} {
			q := posed(c.p)
			was := probText(q)
			r, err := primal.Solve(q, budget)
			told(t, "Solve of "+taskText(c.p), err, c.number, c.where, c.at)
			if resultText(r) != "0[ ][ ][ ]0" || probText(q) != was {
				t.Errorf("Solve of %s: an error, and yet %s", taskText(c.p), resultText(r))
			}
		}
	}
}

func TestP184Problems(t *testing.T) {
	for _, s := range []string{beale, kuhn, hung, long, "1 1; 1 1 = -3; -2 -2 = 6", "-1 -1; 1 0 <= 18446744073709551617/3; 1/18446744073709551616 1 <= 7", "-10 57 9 24; 1/2 -11/2 -5/2 9 <= 0; 1/2 -3/2 -1/2 1 <= 0; 1 0 0 0 <= 1"} {
		p := set(s)
		trueOf(t, p, solves(t, p))
	}
}

// few are problems of so many columns and rows of few numbers: every step-th one of all.
func few(cols, rows, step int, do func(p task)) {
	of := read("0 1 -1")
	count := 0
	tuples(cols+rows*(cols+2), 0, 3, func(at []int) {
		count++
		if count%step != 0 {
			return
		}
		vs := picked(of, at)
		p := task{cost: vs[:cols]}
		for k := range rows {
			begin := cols + k*(cols+2)
			p.bonds = append(p.bonds, bond{vs[begin : begin+cols], kinds[at[begin+cols]], vs[begin+cols+1]})
		}
		do(p)
	})
}

// TestP184Every is of all problems of few numbers with up to two columns and a
// row, and of some with more.
func TestP184Every(t *testing.T) {
	outcomes := map[api.Outcome]int{}
	for _, size := range []struct{ cols, rows, step int }{
		{0, 1, 1}, {0, 2, 1}, {1, 0, 1}, {1, 1, 1}, {1, 2, 2}, {2, 0, 1}, {2, 1, 1}, {3, 1, 11}, {2, 2, 127}, {1, 3, 97}, {3, 2, 4001}, {2, 3, 10007},
	} {
		few(size.cols, size.rows, size.step, func(p task) {
			r := solves(t, p)
			trueOf(t, p, r)
			outcomes[r.Outcome]++
		})
	}
	if outcomes[api.Optimal] < 500 || outcomes[api.Infeasible] < 500 || outcomes[api.Unbounded] < 500 {
		t.Error(outcomes)
	}
}

func TestP184Random(t *testing.T) {
	d := rolled(9)
	outcomes, most := map[api.Outcome]int{}, 0
	for range 200 {
		p := d.task(d.IntN(5), d.IntN(4))
		r := solves(t, p)
		trueOf(t, p, r)
		outcomes[r.Outcome]++
		most = max(most, r.Pivots)
	}
	if outcomes[api.Optimal] < 20 || outcomes[api.Infeasible] < 20 || outcomes[api.Unbounded] < 20 || most < 5 {
		t.Error(outcomes, most)
	}
}

// TestP184Great is of as many rows and columns as there may be.
func TestP184Great(t *testing.T) {
	d := rolled(10)
	outcomes := map[api.Outcome]int{}
	for range 3 {
		p := d.task(24, 20)
		for _, v := range p.cost[:12] {
			v.Abs(v)
		}
		r, _ := solve(t, p, math.MaxInt)
		outcomes[r.Outcome]++
		for _, budget := range []int{r.Pivots - 1, r.Pivots} {
			solve(t, p, budget)
		}
	}
	for i := range 2 {
		p := d.task(24, 20)
		x := d.sizes(24)
		for k, b := range p.bonds {
			p.bonds[k].rhs = dot(b.coef, x)
		}
		for _, v := range p.cost {
			v.Abs(v)
		}
		if i == 0 {
			p.cost = neg(p.cost)
		}
		r, _ := solve(t, p, math.MaxInt)
		outcomes[r.Outcome]++
	}
	if outcomes[api.Optimal] < 2 || len(outcomes) < 2 {
		t.Error(outcomes)
	}
}

// TestP184Kept changes what Solve has told, and what it was given.
func TestP184Kept(t *testing.T) {
	for _, s := range []string{example, "0; 1 = 1; 1 = 2", "-1 0; 1 -1 <= 2", hung} {
		q := posed(set(s))
		r, err := primal.Solve(q, 99)
		told(t, "Solve of "+s, err, api.OK, "", 0)
		words := resultText(r)
		other, _ := primal.Solve(q, 99)
		apart(t, "Solve", q, r.Point, r.Duals, r.Ray, other.Point, other.Duals, other.Ray)
		overwrite(other.Point, other.Duals, other.Ray)
		if resultText(r) != words || probText(q) != taskText(set(s)) {
			t.Errorf("Solve of %s: %s; was %s", probText(q), resultText(r), words)
		}
		again, _ := primal.Solve(q, 99)
		if resultText(again) != words {
			t.Errorf("Solve of %s: %s, then %s", s, words, resultText(again))
		}
		overwrite(q.Cost, q.Rows[0].Coef)
		if resultText(again) != words {
			t.Errorf("what Solve has told of %s has become %s; was %s", s, resultText(again), words)
		}
	}
}

// TestP184Steps goes by the single calls as Solve goes at once.
func TestP184Steps(t *testing.T) {
	d := rolled(11)
	for range 60 {
		p := d.task(1+d.IntN(4), d.IntN(5))
		a, err := prob.Standard(posed(p))
		told(t, "Standard", err, api.OK, "", 0)
		s, err := primal.Begin(a)
		told(t, "Begin", err, api.OK, "", 0)
		x, weights, begun, err := primal.Feasible(s, 99)
		told(t, "Feasible", err, api.OK, "", 0)
		want := primal.Result{Outcome: api.Infeasible, Duals: weights, Pivots: begun}
		if x != nil {
			j, made, err := primal.Run(x, s.Std.C, s.May(), 99)
			told(t, "Run", err, api.OK, "", 0)
			want = primal.Result{Outcome: api.Optimal, Point: x.Point()[:len(p.cost)], Pivots: begun + made}
			if duals, _ := x.Duals(s.Std.C); j < 0 {
				want.Duals = s.Back(duals)
			} else {
				want.Outcome, want.Ray = api.Unbounded, s.Ray(x, j)
			}
		}
		if r, err := primal.Solve(posed(p), 999); err != nil || resultText(r) != resultText(want) {
			t.Fatalf("Solve of %s is %s, %v; want %s", taskText(p), resultText(r), err, resultText(want))
		}
	}
}

func TestP184Examples(t *testing.T) {
	p := prob.Prob{Cost: vec.Of(1, 1), Rows: []prob.Row{
		{Coef: vec.Of(1, 2), Kind: api.Ge, Rhs: rat.Int(4)}, {Coef: vec.Of(3, 1), Kind: api.Le, Rhs: rat.Int(9)},
	}}
	r, err := primal.Solve(p, 100)
	told(t, "Solve", err, api.OK, "", 0)
	half, _ := rat.Of(1, 2)
	if r.Outcome != api.Optimal || !vec.Same(r.Point, vec.Of(0, 2)) || !vec.Same(r.Duals, vec.Vec{half, rat.Int(0)}) || len(r.Ray) > 0 {
		t.Error("Solve is", resultText(r))
	}
	_, err = primal.Solve(p, 0)
	told(t, "Solve with 0", err, api.ErrBudget, "pivot", 0)
	r, err = primal.Solve(prob.Prob{Cost: vec.Of(0), Rows: []prob.Row{{Coef: vec.Of(1), Kind: api.Le, Rhs: rat.Int(-1)}}}, 0)
	told(t, "Solve", err, api.OK, "", 0)
	if r.Outcome != api.Infeasible || !vec.Same(r.Duals, vec.Of(-1)) || len(r.Point) > 0 || len(r.Ray) > 0 {
		t.Error("Solve is", resultText(r))
	}
	r, err = primal.Solve(prob.Prob{Cost: vec.Of(-1)}, 0)
	told(t, "Solve", err, api.OK, "", 0)
	if r.Outcome != api.Unbounded || !vec.Same(r.Point, vec.Of(0)) || !vec.Same(r.Ray, vec.Of(1)) || len(r.Duals) > 0 {
		t.Error("Solve is", resultText(r))
	}
}
