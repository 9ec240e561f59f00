package vec_test

import (
	"cmp"
	"math"
	"math/big"
	"reflect"
	"slices"
	"strings"
	"testing"

	"actuary/api"
	"actuary/integer"
	"actuary/nat"
	"actuary/rat"
	"actuary/vec"
)

const most = 1<<64 - 1

// row is some fractions, as math/big has them.
type row = []*big.Rat

// natural is the Nat of a number, its sign left out.
func natural(v *big.Int) nat.Nat {
	var words []uint64
	w := new(big.Int).Abs(v)
	for w.Sign() > 0 {
		words = append(words, new(big.Int).And(w, new(big.Int).SetUint64(most)).Uint64())
		w.Rsh(w, 64)
	}
	return nat.Of(words...)
}

// whole is the Int of a number.
func whole(v *big.Int) integer.Int {
	return integer.New(v.Sign() < 0, natural(v))
}

// of is the Rat of a fraction.
func of(v *big.Rat) rat.Rat {
	a, _ := rat.New(whole(v.Num()), whole(v.Denom()))
	return a
}

// size is the number of a Nat, by its words.
func size(n nat.Nat) *big.Int {
	v := new(big.Int)
	for _, x := range slices.Backward(n.Words()) {
		v.Lsh(v, 64).Or(v, new(big.Int).SetUint64(x))
	}
	return v
}

// is tells whether a is v. The parts of v have no common divisor, as math/big
// has them.
func is(a rat.Rat, v *big.Rat) bool {
	num := size(a.Num().Abs())
	if a.Num().Below() {
		num.Neg(num)
	}
	return num.Cmp(v.Num()) == 0 && size(a.Den()).Cmp(v.Denom()) == 0 && a.IsInt() == v.IsInt()
}

// text is a Rat in words.
func text(a rat.Rat) string {
	sign := ""
	if a.Num().Below() {
		sign = "-"
	}
	return sign + size(a.Num().Abs()).String() + "/" + size(a.Den()).String()
}

// texts is a Vec in words.
func texts(a vec.Vec) string {
	var all []string
	for _, x := range a {
		all = append(all, text(x))
	}
	return "[" + strings.Join(all, " ") + "]"
}

// fraction is that of a text.
func fraction(s string) *big.Rat {
	v, ok := new(big.Rat).SetString(s)
	if !ok {
		panic(s)
	}
	return v
}

// read is the fractions of a text.
func read(s string) row {
	var vs row
	for _, word := range strings.Fields(s) {
		vs = append(vs, fraction(word))
	}
	return vs
}

// line is the Vec of some fractions.
func line(vs row) vec.Vec {
	var a vec.Vec
	for _, v := range vs {
		a = append(a, of(v))
	}
	return a
}

// lines are those of several.
func lines(rows []row) []vec.Vec {
	var as []vec.Vec
	for _, vs := range rows {
		as = append(as, line(vs))
	}
	return as
}

// isLine tells whether a is the fractions of vs.
func isLine(a vec.Vec, vs row) bool {
	return slices.EqualFunc(a, vs, is)
}

// kept fails the test, if a Vec that was handed in is not any more what it was.
func kept(t *testing.T, a vec.Vec, vs row) {
	t.Helper()
	if !isLine(a, vs) {
		t.Fatalf("%v has become %s", vs, texts(a))
	}
}

// nought is 0.
func nought() *big.Rat {
	return new(big.Rat)
}

// plus is v + w, minus v - w, times v * w.
func plus(v, w *big.Rat) *big.Rat {
	return new(big.Rat).Add(v, w)
}

func minus(v, w *big.Rat) *big.Rat {
	return new(big.Rat).Sub(v, w)
}

func times(v, w *big.Rat) *big.Rat {
	return new(big.Rat).Mul(v, w)
}

// placewise is what f makes of each two at one place.
func placewise(v, w row, f func(x, y *big.Rat) *big.Rat) row {
	var all row
	for i := range v {
		all = append(all, f(v[i], w[i]))
	}
	return all
}

// total is the sum of some.
func total(vs row) *big.Rat {
	sum := nought()
	for _, v := range vs {
		sum.Add(sum, v)
	}
	return sum
}

// long is a number of so many words, all of them different.
func long(words int) *big.Int {
	v := new(big.Int)
	for k := range words {
		v.Lsh(v, 64).Or(v, new(big.Int).SetUint64(uint64(k+1)*0x9e3779b97f4a7c15))
	}
	return v
}

// by is v / w.
func by(v, w *big.Int) *big.Rat {
	return new(big.Rat).SetFrac(v, w)
}

// longOnes are fractions with parts of several words, below 0 and above it, and
// a few short ones among them.
func longOnes() row {
	var all row
	for _, words := range []int{1, 2, 3, 7} {
		v, w := long(words), long(words+1)
		w.Sub(w, big.NewInt(1))
		all = append(all, by(v, w), by(new(big.Int).Neg(w), v), new(big.Rat).SetInt(w), nought(), by(big.NewInt(-1), w), big.NewRat(1, 3))
	}
	return all
}

// rowsOf are all rows of up to so many that are among some few.
func rowsOf(longest int, few row) []row {
	all := []row{nil}
	for start := 0; longest > 0; longest-- {
		end := len(all)
		for _, v := range all[start:end] {
			for _, x := range few {
				all = append(all, append(slices.Clone(v), x))
			}
		}
		start = end
	}
	return all
}

// memory is where the words and elements of what is handed in lie.
func memory(of ...any) map[uintptr]int {
	seen := map[uintptr]int{}
	for _, v := range of {
		look(reflect.ValueOf(v), seen)
	}
	return seen
}

func look(v reflect.Value, seen map[uintptr]int) {
	switch v.Kind() {
	case reflect.Slice:
		if v.Cap() > 0 {
			seen[v.Pointer()]++
		}
		for i := range v.Len() {
			look(v.Index(i), seen)
		}
	case reflect.Struct:
		for i := range v.NumField() {
			look(v.Field(i), seen)
		}
	case reflect.Pointer:
		if !v.IsNil() {
			seen[v.Pointer()]++
			look(v.Elem(), seen)
		}
	}
}

// apart fails the test, if two of what it is given, or two of one's parts, lie
// in the same memory.
func apart(t *testing.T, name string, of ...any) {
	t.Helper()
	for at, times := range memory(of...) {
		if times > 1 {
			t.Fatalf("%s: %d of them at %x", name, times, at)
		}
	}
}

// ints are the ends of what an int holds and what is next to them, and some others.
var ints = []int{0, 1, -1, 2, -2, 63, 64, -65, 1 << 32, math.MaxInt, math.MaxInt - 1, math.MinInt, math.MinInt + 1}

func TestP101Of(t *testing.T) {
	lists := [][]int{nil, {}, {0}, {1}, {-1}, {math.MaxInt}, {math.MinInt}, {0, 0}, {1, 2}, {2, 1}, {-3, 0, 3}, ints}
	many := make([]int, 1000)
	for i := range many {
		many[i] = (i - 500) * 0x123456789
	}
	for _, xs := range append(lists, many, many[:api.MaxDim], many[:api.MaxDim+1]) {
		var want row
		for _, x := range xs {
			want = append(want, new(big.Rat).SetInt64(int64(x)))
		}
		before := slices.Clone(xs)
		a := vec.Of(xs...)
		if !isLine(a, want) {
			t.Errorf("Of(%v) = %s", xs, texts(a))
		}
		if !slices.Equal(xs, before) {
			t.Errorf("Of(%v): it was %v", xs, before)
		}
		apart(t, "Of", a, vec.Of(xs...))
		for i := range xs {
			xs[i]++
		}
		kept(t, a, want)
		copy(xs, before)
	}
	if a := vec.Of(); len(a) != 0 {
		t.Errorf("Of() = %s", texts(a))
	}
	if a := vec.Of(7, -8); !isLine(a, read("7 -8")) {
		t.Errorf("Of(7, -8) = %s", texts(a))
	}
}

func TestP101Nought(t *testing.T) {
	counts := []int{-1 << 32, -1<<32 + 1, 1 << 32, 1<<32 + 1, 1 << 62}
	for n := -70; n <= 140; n++ {
		counts = append(counts, n)
	}
	for _, n := range append(counts, ints...) {
		a, ok := vec.Nought(n)
		if want := 0 <= n && n <= 64; ok != want || !ok && a != nil {
			t.Errorf("Nought(%d) = %d elements, %t", n, len(a), ok)
		} else if ok && !isLine(a, noughts(n)) {
			t.Errorf("Nought(%d) = %s", n, texts(a))
		}
	}
}

// noughts are so many of 0.
func noughts(n int) row {
	all := make(row, n)
	for i := range all {
		all[i] = nought()
	}
	return all
}

func TestP101NoughtIsNew(t *testing.T) {
	a, _ := vec.Nought(3)
	for i := range a {
		a[i] = rat.Int(5)
	}
	b, ok := vec.Nought(3)
	if !ok || !isLine(b, noughts(3)) {
		t.Errorf("Nought(3) = %s, %t, after another one was changed", texts(b), ok)
	}
	kept(t, a, read("5 5 5"))
	apart(t, "Nought", a, b)
}

func TestP101Unit(t *testing.T) {
	for n := -3; n <= 68; n++ {
		for k := -3; k <= 70; k++ {
			unit(t, n, k)
		}
		for _, k := range ints {
			unit(t, n, k)
			unit(t, k, n)
		}
	}
	for _, n := range ints {
		for _, k := range ints {
			unit(t, n, k)
		}
	}
}

// unit looks at one Unit.
func unit(t *testing.T, n, k int) {
	t.Helper()
	a, ok := vec.Unit(n, k)
	if want := 0 <= n && n <= 64 && 0 <= k && k < n; ok != want || !ok && a != nil {
		t.Errorf("Unit(%d, %d) = %s, %t", n, k, texts(a), ok)
	} else if ok {
		want := noughts(n)
		want[k] = big.NewRat(1, 1)
		if !isLine(a, want) {
			t.Errorf("Unit(%d, %d) = %s", n, k, texts(a))
		}
	}
}

func TestP101UnitEdges(t *testing.T) {
	for _, c := range []struct {
		n, k int
		ok   bool
	}{
		{-1, -1, false},
		{-1, 0, false},
		{-1, -2, false},
		{0, -1, false},
		{0, 0, false},
		{0, 1, false},
		{1, -1, false},
		{1, 0, true},
		{1, 1, false},
		{3, -1, false},
		{3, 0, true},
		{3, 2, true},
		{3, 3, false},
		{64, -1, false},
		{64, 0, true},
		{64, 63, true},
		{64, 64, false},
		{65, 0, false},
		{65, 64, false},
		{65, 65, false},
		{math.MinInt, math.MinInt, false},
		{math.MaxInt, 0, false},
		{math.MaxInt, math.MaxInt, false},
	} {
		a, ok := vec.Unit(c.n, c.k)
		if ok != c.ok || ok && (len(a) != c.n || !rat.Same(a[c.k], rat.Int(1)) || a.First() != c.k) || !ok && a != nil {
			t.Errorf("Unit(%d, %d) = %s, %t", c.n, c.k, texts(a), ok)
		}
	}
}

func TestP101UnitIsNew(t *testing.T) {
	a, _ := vec.Unit(3, 1)
	a[0], a[1] = rat.Int(5), rat.Int(6)
	b, ok := vec.Unit(3, 1)
	if !ok || !isLine(b, read("0 1 0")) {
		t.Errorf("Unit(3, 1) = %s, %t, after another one was changed", texts(b), ok)
	}
	kept(t, a, read("5 6 0"))
	apart(t, "Unit", a, b)
}

func TestP101Copy(t *testing.T) {
	rows := []row{nil, {}, longOnes(), noughts(64), noughts(200)}
	for _, s := range []string{"0", "7", "-1/2", "1 2", "0 0 3", "1/2 -2/3 4 0"} {
		rows = append(rows, read(s))
	}
	for _, vs := range rows {
		a := line(vs)
		b := a.Copy()
		if !isLine(b, vs) {
			t.Errorf("a copy of %v is %s", vs, texts(b))
		}
		apart(t, "Copy", a, b)
		kept(t, a, vs)
		for i := range b {
			b[i] = rat.Int(99)
		}
		kept(t, a, vs)
		c := a.Copy()
		for i := range a {
			a[i] = rat.Int(-99)
		}
		if !isLine(c, vs) {
			t.Errorf("a copy of %v became %s, when that was changed", vs, texts(c))
		}
	}
}

func TestP101CopyOfPart(t *testing.T) {
	whole := read("1 2 3 4 5")
	a := line(whole)
	b := a[1:3].Copy()
	b = append(b, rat.Int(9))
	b[0] = rat.Int(8)
	kept(t, a, whole)
	if !isLine(b, read("8 3 9")) {
		t.Errorf("a copy of 2 3, changed: %s", texts(b))
	}
}

// sums is what is asked of two rows of one length.
type sums struct {
	a, b, r                    string
	dot                        string
	sum, difference, more, few string // more: a plus r times b; few: r times a
}

func TestP102Tables(t *testing.T) {
	for _, c := range []sums{
		// of no elements, and of one
		{"", "", "1", "0", "", "", "", ""},
		{"", "", "0", "0", "", "", "", ""},
		{"", "", "-7/3", "0", "", "", "", ""},
		{"0", "0", "0", "0", "0", "0", "0", "0"},
		{"2", "3", "1", "6", "5", "-1", "5", "2"},
		{"2", "3", "0", "6", "5", "-1", "2", "0"},
		{"2", "3", "-1", "6", "5", "-1", "-1", "-2"},
		{"-2", "3", "2", "-6", "1", "-5", "4", "-4"},
		{"0", "3", "5", "0", "3", "-3", "15", "0"},
		{"3", "0", "5", "0", "3", "3", "3", "15"},
		{"1/2", "1/3", "6", "1/6", "5/6", "1/6", "5/2", "3"},
		{"1/2", "-1/2", "1", "-1/4", "0", "1", "0", "1/2"},
		{"1/2", "1/2", "-1", "1/4", "1", "0", "0", "-1/2"},

		// of more
		{"1 2", "3 4", "1", "11", "4 6", "-2 -2", "4 6", "1 2"},
		{"1 2", "3 4", "0", "11", "4 6", "-2 -2", "1 2", "0 0"},
		{"1 2", "3 4", "-1", "11", "4 6", "-2 -2", "-2 -2", "-1 -2"},
		{"1 2", "1 -1", "3", "-1", "2 1", "0 3", "4 -1", "3 6"},
		{"1 5", "1 2", "1/2", "11", "2 7", "0 3", "3/2 6", "1/2 5/2"},
		{"1 0 2", "0 1 -2", "2", "-4", "1 1 0", "1 -1 4", "1 2 -2", "2 0 4"},
		{"1 1", "1 -1", "1", "0", "2 0", "0 2", "2 0", "1 1"},
		{"1/2 2/3 -3/4", "1/2 1/3 1/4", "-2/3", "41/144", "1 1 -1/2", "0 1/3 -1", "1/6 4/9 -11/12", "-1/3 -4/9 1/2"},
		{"0 0 0", "1 2 3", "4", "0", "1 2 3", "-1 -2 -3", "4 8 12", "0 0 0"},
		{"1 2 3", "0 0 0", "4", "0", "1 2 3", "1 2 3", "1 2 3", "4 8 12"},

		// at the ends of words
		{"9223372036854775807 -9223372036854775808", "1 -1", "1", "18446744073709551615",
			"9223372036854775808 -9223372036854775809", "9223372036854775806 -9223372036854775807",
			"9223372036854775808 -9223372036854775809", "9223372036854775807 -9223372036854775808"},
		{"18446744073709551615/2", "1/2", "2", "18446744073709551615/4", "9223372036854775808", "9223372036854775807", "18446744073709551617/2", "18446744073709551615"},
	} {
		c.hold(t)
	}
}

// hold holds what is asked against what there is.
func (c sums) hold(t *testing.T) {
	t.Helper()
	a, b, r := line(read(c.a)), line(read(c.b)), of(fraction(c.r))
	if d, ok := vec.Dot(a, b); !ok || !is(d, fraction(c.dot)) {
		t.Errorf("Dot(%s, %s) = %s, %t; want %s", c.a, c.b, text(d), ok, c.dot)
	}
	if s, ok := vec.Add(a, b); !ok || !isLine(s, read(c.sum)) {
		t.Errorf("Add(%s, %s) = %s, %t; want %s", c.a, c.b, texts(s), ok, c.sum)
	}
	if s, ok := vec.Sub(a, b); !ok || !isLine(s, read(c.difference)) {
		t.Errorf("Sub(%s, %s) = %s, %t; want %s", c.a, c.b, texts(s), ok, c.difference)
	}
	if s, ok := vec.AddTimes(a, r, b); !ok || !isLine(s, read(c.more)) {
		t.Errorf("AddTimes(%s, %s, %s) = %s, %t; want %s", c.a, c.r, c.b, texts(s), ok, c.more)
	}
	if s := vec.Scale(r, a); !isLine(s, read(c.few)) {
		t.Errorf("Scale(%s, %s) = %s; want %s", c.r, c.a, texts(s), c.few)
	}
	kept(t, a, read(c.a))
	kept(t, b, read(c.b))
	kept(t, vec.Vec{r}, row{fraction(c.r)})
}

// against holds the arithmetic of two rows and a number against math/big.
func against(t *testing.T, v row, r *big.Rat, w row) {
	t.Helper()
	a, x, b := line(v), of(r), line(w)
	fit := len(v) == len(w)
	var dot *big.Rat = nought()
	var sum, difference, more row
	if fit {
		dot = total(placewise(v, w, times))
		sum, difference = placewise(v, w, plus), placewise(v, w, minus)
		more = placewise(v, w, func(p, q *big.Rat) *big.Rat { return plus(p, times(r, q)) })
	}
	if d, ok := vec.Dot(a, b); ok != fit || !is(d, dot) || !ok && !reflect.DeepEqual(d, rat.Rat{}) {
		t.Fatalf("Dot(%v, %v) = %s, %t", v, w, text(d), ok)
	}
	if s, ok := vec.Add(a, b); ok != fit || !isLine(s, sum) {
		t.Fatalf("Add(%v, %v) = %s, %t", v, w, texts(s), ok)
	}
	if s, ok := vec.Sub(a, b); ok != fit || !isLine(s, difference) {
		t.Fatalf("Sub(%v, %v) = %s, %t", v, w, texts(s), ok)
	}
	if s, ok := vec.AddTimes(a, x, b); ok != fit || !isLine(s, more) {
		t.Fatalf("AddTimes(%v, %v, %v) = %s, %t", v, r, w, texts(s), ok)
	}
	if s := vec.Scale(x, a); !isLine(s, placewise(v, v, func(p, _ *big.Rat) *big.Rat { return times(r, p) })) {
		t.Fatalf("Scale(%v, %v) = %s", r, v, texts(s))
	}
	kept(t, a, v)
	kept(t, b, w)
	kept(t, vec.Vec{x}, row{r})
}

func TestP102AllShort(t *testing.T) {
	rows := rowsOf(3, read("0 1 -1/2 7/3"))
	for _, v := range rows {
		for _, w := range rows {
			for _, r := range read("0 1 -1 2/3") {
				against(t, v, r, w)
			}
		}
	}
}

func TestP102Long(t *testing.T) {
	all := longOnes()
	for shift := range all {
		w := append(slices.Clone(all[shift:]), all[:shift]...)
		for _, r := range append(row{all[0], all[7], all[14]}, read("0 1 -1")...) {
			against(t, all, r, w)
		}
		against(t, all[:shift], all[shift], w)
	}
}

func TestP102Lengths(t *testing.T) {
	for _, n := range []int{0, 1, 2, 3, 5, 63, 64, 65, 66, 200} {
		for _, m := range []int{0, 1, 2, 3, 5, 63, 64, 65, 66, 200} {
			for _, few := range []string{"1", "0", "-2/3"} {
				against(t, repeated(few, n), big.NewRat(3, 2), repeated(few, m))
			}
		}
	}
	a, b := line(read("1 2 3")), line(read("1 2"))
	for _, c := range [][2]vec.Vec{{a, b}, {b, a}, {a, nil}, {nil, a}, {a, {}}, {{}, a}} {
		sum, added := vec.Add(c[0], c[1])
		difference, subbed := vec.Sub(c[0], c[1])
		more, multiplied := vec.AddTimes(c[0], rat.Int(0), c[1])
		if added || subbed || multiplied || sum != nil || difference != nil || more != nil {
			t.Errorf("of %s and %s: %v %v %v", texts(c[0]), texts(c[1]), added, subbed, multiplied)
		}
	}
}

// repeated is so many of the number of one text.
func repeated(s string, n int) row {
	return read(strings.Repeat(s+" ", n))
}

// TestP102OneTwice has one row in both places.
func TestP102OneTwice(t *testing.T) {
	for _, vs := range append(rowsOf(3, read("0 2 -1/2 7/3")), longOnes()) {
		a := line(vs)
		if d, ok := vec.Dot(a, a); !ok || !is(d, total(placewise(vs, vs, times))) {
			t.Errorf("Dot of %v with itself: %s, %t", vs, text(d), ok)
		}
		if s, ok := vec.Add(a, a); !ok || !isLine(s, placewise(vs, vs, plus)) {
			t.Errorf("%v with itself: %s, %t", vs, texts(s), ok)
		}
		if s, ok := vec.Sub(a, a); !ok || !isLine(s, noughts(len(vs))) {
			t.Errorf("%v less itself: %s, %t", vs, texts(s), ok)
		}
		if s, ok := vec.AddTimes(a, rat.Int(-1), a); !ok || !isLine(s, noughts(len(vs))) {
			t.Errorf("%v and -1 of itself: %s, %t", vs, texts(s), ok)
		}
		if s, ok := vec.Combine(vec.Of(1, -1), a, a); !ok || !isLine(s, noughts(len(vs))) {
			t.Errorf("Combine of %v and -1 of itself: %s, %t", vs, texts(s), ok)
		}
		kept(t, a, vs)
	}
}

func TestP102ResultsAreNew(t *testing.T) {
	v, w := longOnes(), slices.Repeat(read("0 1 -1 1/2 3 -18446744073709551616"), 4)
	for _, number := range append(read("0 1 -1 2/3"), longOnes()...) {
		// Room behind the last one must not be taken for an answer either.
		a, b := append(line(v), rat.Int(77)), append(line(w), rat.Int(78))
		r := of(number)
		a, b = a[:len(v)], b[:len(w)]
		sum, _ := vec.Add(a, b)
		other, _ := vec.Add(b, a)
		difference, _ := vec.Sub(a, b)
		more, _ := vec.AddTimes(a, r, b)
		less, _ := vec.AddTimes(b, r, a)
		combined, _ := vec.Combine(vec.Vec{r}, a)
		results := []vec.Vec{sum, other, difference, more, less, combined, vec.Scale(r, a), vec.Scale(r, b), a.Copy()}
		dot, _ := vec.Dot(a, b)
		single, _ := vec.Dot(a[:1], vec.Of(1))
		apart(t, "of "+number.String(), a, b, r, results, dot, single)
		for _, s := range results {
			for i := range s {
				s[i] = rat.Int(99)
			}
			s = append(s, rat.Int(100))
		}
		kept(t, a[:len(v)+1], append(slices.Clone(v), big.NewRat(77, 1)))
		kept(t, b[:len(w)+1], append(slices.Clone(w), big.NewRat(78, 1)))
	}
}

func TestP102ArgumentsMayChange(t *testing.T) {
	a, b, rs := vec.Of(1, 2), vec.Of(3, 4), vec.Of(5, 6)
	vs := []vec.Vec{a, b}
	sum, _ := vec.Add(a, b)
	difference, _ := vec.Sub(a, b)
	more, _ := vec.AddTimes(a, rs[0], b)
	combined, _ := vec.Combine(rs, vs...)
	one, _ := vec.Combine(vec.Of(1), vs[:1]...)
	few := vec.Scale(rs[0], a)
	for _, x := range []vec.Vec{a, b, rs} {
		for i := range x {
			x[i] = rat.Int(99)
		}
	}
	vs[0], vs[1] = nil, nil
	for _, c := range []struct {
		got  vec.Vec
		want string
	}{
		{sum, "4 6"}, {difference, "-2 -2"}, {more, "16 22"}, {combined, "23 34"}, {one, "1 2"}, {few, "5 10"},
	} {
		if !isLine(c.got, read(c.want)) {
			t.Errorf("%s has become %s, when what was handed in was changed", c.want, texts(c.got))
		}
	}
}

// parts are the pieces of a text between bars.
func parts(s string) []row {
	var rows []row
	for _, piece := range strings.Split(s, "|") {
		rows = append(rows, read(piece))
	}
	return rows
}

func TestP102CombineTables(t *testing.T) {
	for _, c := range []struct {
		rs, vs, want string
		ok           bool
	}{
		{"2 3", "1 0|0 1", "2 3", true},
		{"1", "1 2 3", "1 2 3", true},
		{"0", "1 2 3", "0 0 0", true},
		{"-1", "1 2 3", "-1 -2 -3", true},
		{"1/2", "1 -2 2/3", "1/2 -1 1/3", true},
		{"7", "0 0", "0 0", true},
		{"1 1", "1 2|3 4", "4 6", true},
		{"1 -1", "1 2|3 4", "-2 -2", true},
		{"0 0", "1 2|3 4", "0 0", true},
		{"0 1", "1 2|3 4", "3 4", true},
		{"1 0", "1 2|3 4", "1 2", true},
		{"1/2 1/3 1/6", "1 6|1 6|1 6", "1 6", true},
		{"1 2 3", "1 0 0|0 1 0|0 0 1", "1 2 3", true},
		{"18446744073709551615 1", "1|1", "18446744073709551616", true},

		// of no elements
		{"5", "", "", true},
		{"5 6", "|", "", true},
		{"0 0 0", "||", "", true},
		{"5", "|", "", false},
		{"5 6", "", "", false},

		// too few and too many in rs
		{"", "1 2", "", false},
		{"", "1 2|3 4", "", false},
		{"1", "1 2|3 4", "", false},
		{"1 2 3", "1 2|3 4", "", false},
		{"1 2", "1 2", "", false},
		{"1 2 3 4 5", "1", "", false},
		{"1 0", "1 2", "", false},
		{"", "", "", false},

		// not of one length
		{"1 1", "1 2|3", "", false},
		{"1 1", "1|2 3", "", false},
		{"1 1", "1 2|", "", false},
		{"1 1", "|1 2", "", false},
		{"1 1", "|0", "", false},
		{"1 1 1", "1 2|1 2|1 2 3", "", false},
		{"1 1 1", "1 2 3|1 2|1 2", "", false},
		{"1 1 1", "1 2|1|1 2", "", false},
		{"1 1 1", "1 2|1 2 3 4 5|1 2", "", false},
		{"1 0", "1 2|0", "", false},
		{"0 1", "0|1 2", "", false},
		{"0 0", "0|0 0", "", false},
		{"1 1 1", "1|2|", "", false},
	} {
		rs, vs := line(read(c.rs)), lines(parts(c.vs))
		got, ok := vec.Combine(rs, vs...)
		if ok != c.ok || !isLine(got, read(c.want)) || !ok && got != nil {
			t.Errorf("Combine(%s; %s) = %s, %t; want %s, %t", c.rs, c.vs, texts(got), ok, c.want, c.ok)
		}
		kept(t, rs, read(c.rs))
		for i, v := range parts(c.vs) {
			kept(t, vs[i], v)
		}
	}
}

func TestP102CombineOfNone(t *testing.T) {
	for _, rs := range []vec.Vec{nil, {}, vec.Of(0), vec.Of(1), vec.Of(1, 2, 3)} {
		if got, ok := vec.Combine(rs); ok || got != nil {
			t.Errorf("Combine(%s) = %s, %t", texts(rs), texts(got), ok)
		}
		if got, ok := vec.Combine(rs, []vec.Vec{}...); ok || got != nil {
			t.Errorf("Combine(%s) = %s, %t", texts(rs), texts(got), ok)
		}
	}
	for _, n := range []int{1, 2, 3} {
		if got, ok := vec.Combine(line(noughts(n)), make([]vec.Vec, n)...); !ok || len(got) != 0 {
			t.Errorf("Combine of %d nil ones: %s, %t", n, texts(got), ok)
		}
	}
}

// together holds Combine against math/big.
func together(t *testing.T, factors row, rows ...row) {
	t.Helper()
	ok := len(rows) > 0 && len(factors) == len(rows)
	for _, v := range rows {
		ok = ok && len(v) == len(rows[0])
	}
	var want row
	if ok {
		want = noughts(len(rows[0]))
		for k, v := range rows {
			for i := range v {
				want[i].Add(want[i], times(factors[k], v[i]))
			}
		}
	}
	rs, vs := line(factors), lines(rows)
	if got, fit := vec.Combine(rs, vs...); fit != ok || !isLine(got, want) {
		t.Fatalf("Combine(%v; %v) = %s, %t", factors, rows, texts(got), fit)
	}
	kept(t, rs, factors)
	for i := range rows {
		kept(t, vs[i], rows[i])
	}
}

func TestP102CombineAllShort(t *testing.T) {
	rows := rowsOf(2, read("0 1 -3/2"))
	for _, rs := range rowsOf(3, read("0 1 -2/3")) {
		together(t, rs)
		for _, u := range rows {
			together(t, rs, u)
			for _, v := range rows {
				together(t, rs, u, v)
			}
		}
	}
	for _, rs := range rowsOf(3, read("1 -2/3")) {
		for _, u := range rows {
			for _, v := range rows {
				for _, w := range rows {
					together(t, rs, u, v, w)
				}
			}
		}
	}
}

func TestP102CombineLong(t *testing.T) {
	all := longOnes()
	for n := range 7 {
		var rows []row
		for k := range n {
			rows = append(rows, append(slices.Clone(all[k:]), all[:k]...))
		}
		together(t, all[:n], rows...)
		together(t, all[1:n+1], rows...)
		together(t, all[:n+1], rows...)
	}
	rows := slices.Repeat([]row{read("1 1/2 -1/3")}, 100)
	together(t, repeated("1/7", 100), rows...)
	together(t, repeated("1/7", 99), rows...)
	together(t, repeated("1/7", 101), rows...)
}

func TestP103Tables(t *testing.T) {
	for _, c := range []struct {
		a           string
		first       int
		zero, below bool
		bits        int
	}{
		{"", -1, true, false, 0},
		{"0", -1, true, false, 1},
		{"0 0", -1, true, false, 1},
		{"0 0 0 0 0", -1, true, false, 1},
		{"1", 0, false, false, 2},
		{"-1", 0, false, true, 2},
		{"1/2", 0, false, false, 3},
		{"-1/2", 0, false, true, 3},
		{"8 1", 0, false, false, 5},
		{"1 8", 0, false, false, 5},
		{"1 -8", 0, false, true, 5},

		// the first or the last one is the only one that is not 0
		{"1 0 0", 0, false, false, 2},
		{"0 1 0", 1, false, false, 2},
		{"0 0 1", 2, false, false, 2},
		{"-1 0 0", 0, false, true, 2},
		{"0 -1 0", 1, false, true, 2},
		{"0 0 -1", 2, false, true, 2},
		{"0 0 0 1/7", 3, false, false, 4},
		{"0 0 0 -1/7", 3, false, true, 4},
		{"0 2 0 3", 1, false, false, 3},

		// the first or the last one is the only one below 0
		{"-1 2 3", 0, false, true, 3},
		{"1 -2 3", 0, false, true, 3},
		{"1 2 -3", 0, false, true, 3},
		{"-1/1000 2 3", 0, false, true, 11},
		{"2 3 -1/1000", 0, false, true, 11},
		{"-1 -2", 0, false, true, 3},

		// numerators and denominators count both
		{"3/4 255", 0, false, false, 9},
		{"255 3/256", 0, false, false, 11},
		{"-1/255", 0, false, true, 9},
		{"255/256 1 1", 0, false, false, 17},
		{"18446744073709551615", 0, false, false, 65},
		{"18446744073709551616 1/18446744073709551616", 0, false, false, 66},
		{"0 -18446744073709551616/18446744073709551615", 1, false, true, 129},
	} {
		a := line(read(c.a))
		if a.First() != c.first || a.Zero() != c.zero || a.Below() != c.below || a.Bits() != c.bits {
			t.Errorf("%s: %d, %t, %t, %d; want %d, %t, %t, %d", c.a, a.First(), a.Zero(), a.Below(), a.Bits(), c.first, c.zero, c.below, c.bits)
		}
		kept(t, a, read(c.a))
	}
	for _, a := range []vec.Vec{nil, {}} {
		if a.First() != -1 || !a.Zero() || a.Below() || a.Bits() != 0 {
			t.Errorf("of nothing: %d, %t, %t, %d", a.First(), a.Zero(), a.Below(), a.Bits())
		}
	}
}

// asked holds what is told of one row against math/big.
func asked(t *testing.T, vs row) {
	t.Helper()
	a := line(vs)
	first, below, bits := -1, false, 0
	for i, v := range slices.Backward(vs) {
		if v.Sign() != 0 {
			first = i
		}
		below = below || v.Sign() < 0
		bits = max(bits, v.Num().BitLen()+v.Denom().BitLen())
	}
	if a.First() != first || a.Zero() != (first == -1) || a.Below() != below || a.Bits() != bits {
		t.Fatalf("%v: %d, %t, %t, %d", vs, a.First(), a.Zero(), a.Below(), a.Bits())
	}
	kept(t, a, vs)
}

func TestP103AllShort(t *testing.T) {
	for _, vs := range rowsOf(5, read("0 1 -1/2 100/7")) {
		asked(t, vs)
	}
}

func TestP103Long(t *testing.T) {
	all := longOnes()
	for i := range all {
		asked(t, all[i:])
		asked(t, all[:i])
		one := noughts(64)
		one[i] = all[i]
		asked(t, one)
		asked(t, append(noughts(i), all[i]))
	}
	for i := range 64 {
		for _, v := range read("3 -3 1/3 -1/3") {
			one := noughts(64)
			one[i] = v
			asked(t, one)
			rest := repeated("5", 64)
			rest[i] = v
			asked(t, rest)
		}
	}
}

func TestP103CmpTables(t *testing.T) {
	for _, c := range []struct {
		a, b string
		want int
	}{
		{"", "", 0},
		{"", "0", -1},
		{"", "-1", -1},
		{"", "1 2 3", -1},
		{"0", "0", 0},
		{"0", "1", -1},
		{"0", "-1", 1},
		{"-2", "-1", -1},
		{"1/2", "1/3", 1},
		{"-1/2", "-1/3", -1},
		{"1/2", "2/4", 0},

		// one begins as the other does
		{"1 2", "1 2 0", -1},
		{"1 2", "1 2 -5", -1},
		{"1 2", "1 2 5", -1},
		{"1 2", "1 2 0 0 0 0", -1},
		{"1", "1 2 3", -1},
		{"0 0", "0 0 0", -1},

		// they differ at the first
		{"1 2 3", "2 2 3", -1},
		{"1 9 9", "2 0 0", -1},
		{"1 2 3", "1/2 2 3", 1},
		{"-1 2 3", "1 2 3", -1},
		{"-1 0", "-2 5", 1},
		{"2", "1 9", 1},
		{"1", "2 9", -1},
		{"1 9 9", "2", -1},
		{"-1", "-2 0 0", 1},

		// at the last
		{"1 2 3", "1 2 4", -1},
		{"1 2 -3", "1 2 -4", 1},
		{"1 2 1/3", "1 2 1/4", 1},
		{"1 2 -1", "1 2 0", -1},
		{"1 2 3", "1 2 3", 0},

		// at the last that both have
		{"1 2", "1 3 0", -1},
		{"1 3", "1 2 9", 1},
		{"1 -3", "1 -2 -9", -1},
		{"1 -2", "1 -3 9 9", 1},

		// in the midst, and more than once
		{"1 2 3", "1 3 2", -1},
		{"1 0 3", "1 -1 4", 1},
		{"-1 -2 -3", "-1 -3 -2", 1},

		// long ones
		{"18446744073709551616", "18446744073709551615", 1},
		{"0 18446744073709551616/18446744073709551617", "0 18446744073709551615/18446744073709551616", 1},
		{"0 -18446744073709551616/18446744073709551617", "0 -18446744073709551615/18446744073709551616", -1},
	} {
		ordered(t, c.a, c.b, c.want)
		ordered(t, c.b, c.a, -c.want)
	}
}

// ordered holds the order of two rows against what is asked.
func ordered(t *testing.T, s, u string, want int) {
	t.Helper()
	a, b := line(read(s)), line(read(u))
	if got := vec.Cmp(a, b); got != want || vec.Same(a, b) != (want == 0) {
		t.Errorf("Cmp(%s, %s) = %d, %t; want %d", s, u, got, vec.Same(a, b), want)
	}
	kept(t, a, read(s))
	kept(t, b, read(u))
}

// order is that of two rows by math/big.
func order(v, w row) int {
	for i := range v {
		if i == len(w) {
			break
		}
		if c := v[i].Cmp(w[i]); c != 0 {
			return c
		}
	}
	return cmp.Compare(len(v), len(w))
}

func TestP103CmpAllShort(t *testing.T) {
	rows := rowsOf(4, read("0 1 -1/2 1/3"))
	var as []vec.Vec
	for _, v := range rows {
		as = append(as, line(v))
	}
	for i, v := range rows {
		for j, w := range rows {
			if got, want := vec.Cmp(as[i], as[j]), order(v, w); got != want || vec.Same(as[i], as[j]) != (want == 0) {
				t.Fatalf("Cmp(%v, %v) = %d, %t; want %d", v, w, got, vec.Same(as[i], as[j]), want)
			}
		}
	}
	for i, v := range rows {
		kept(t, as[i], v)
	}
}

func TestP103CmpLong(t *testing.T) {
	all := longOnes()
	a := line(all)
	for i := range all {
		for _, step := range read("1 -1 1/3 -1/18446744073709551617") {
			other := slices.Clone(all)
			other[i] = plus(other[i], step)
			b := line(other)
			if vec.Cmp(a, b) != -step.Sign() || vec.Cmp(b, a) != step.Sign() || vec.Same(a, b) || vec.Same(b, a) {
				t.Errorf("with %v more at %d: %d, %d", step, i, vec.Cmp(a, b), vec.Cmp(b, a))
			}
			if got := vec.Cmp(a, b[:i+1]); got != -step.Sign() {
				t.Errorf("with %v more at %d, the last: %d", step, i, got)
			}
			if got := vec.Cmp(a[:i], b); got != -1 {
				t.Errorf("the first %d: %d", i, got)
			}
		}
	}
	if vec.Cmp(a, a) != 0 || !vec.Same(a, a) || !vec.Same(a, a.Copy()) || vec.Same(a, nil) || vec.Same(nil, a) {
		t.Error("long ones with themselves")
	}
	if vec.Cmp(nil, vec.Vec{}) != 0 || vec.Cmp(vec.Vec{}, nil) != 0 || !vec.Same(nil, vec.Vec{}) {
		t.Error("nil with a Vec of no elements")
	}
}
