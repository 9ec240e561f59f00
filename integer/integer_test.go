package integer_test

import (
	"bytes"
	"cmp"
	"math"
	"math/big"
	"slices"
	"strings"
	"testing"

	"actuary/api"
	"actuary/digits"
	"actuary/integer"
	"actuary/nat"
)

const (
	half = 1 << 63
	most = 1<<64 - 1
)

// list is some words, the lowest first, as nat.Nat has them.
type list = []uint64

// natural is the Nat of a number, its sign left out.
func natural(v *big.Int) nat.Nat {
	var words list
	w := new(big.Int).Abs(v)
	for w.Sign() > 0 {
		words = append(words, new(big.Int).And(w, new(big.Int).SetUint64(most)).Uint64())
		w.Rsh(w, 64)
	}
	return nat.Of(words...)
}

// size is the number of a Nat, by its words.
func size(n nat.Nat) *big.Int {
	v := new(big.Int)
	for _, x := range slices.Backward(n.Words()) {
		v.Lsh(v, 64).Or(v, new(big.Int).SetUint64(x))
	}
	return v
}

// value is the number of an Int.
func value(a integer.Int) *big.Int {
	v := size(a.Abs())
	if a.Below() {
		v.Neg(v)
	}
	return v
}

// of is the Int of a number.
func of(v *big.Int) integer.Int {
	return integer.New(v.Sign() < 0, natural(v))
}

// number is that of a text.
func number(s string) *big.Int {
	v, ok := new(big.Int).SetString(s, 10)
	if !ok {
		panic(s)
	}
	return v
}

// power is x to the k.
func power(x int64, k int) *big.Int {
	return new(big.Int).Exp(big.NewInt(x), big.NewInt(int64(k)), nil)
}

// plus is v + x.
func plus(v *big.Int, x int64) *big.Int {
	return new(big.Int).Add(v, big.NewInt(x))
}

// opposite is -v.
func opposite(v *big.Int) *big.Int {
	return new(big.Int).Neg(v)
}

// is tells whether a is v, and in good form: its sign in all that tells of it,
// and the last of its words not 0.
func is(a integer.Int, v *big.Int) bool {
	abs := a.Abs()
	return size(abs).CmpAbs(v) == 0 && abs.Len() == (v.BitLen()+63)/64 &&
		a.Below() == (v.Sign() < 0) && a.Sign() == v.Sign()
}

// kept fails the test, if a number that was handed in is not any more what it was.
func kept(t *testing.T, a integer.Int, v *big.Int) {
	t.Helper()
	if !is(a, v) {
		t.Fatalf("%d has become %d", v, value(a))
	}
}

// nothing tells whether a is 0 in every answer.
func nothing(a integer.Int) bool {
	x, ok := a.Int()
	return !a.Below() && a.Sign() == 0 && a.Abs().Zero() && a.Abs().Len() == 0 &&
		ok && x == 0 && a.Text() == "0" && integer.Cmp(a, integer.Int{}) == 0 && integer.Cmp(integer.Int{}, a) == 0
}

// numbers are those of up to so many words that are among some few, below 0
// and above it, and 0.
func numbers(words int, few list) []*big.Int {
	vs := []*big.Int{new(big.Int)}
	lists := []list{nil}
	for range words {
		var longer []list
		for _, low := range lists {
			for _, x := range few {
				next := append(slices.Clone(low), x)
				longer = append(longer, next)
				if x != 0 {
					v := size(nat.Of(next...))
					vs = append(vs, v, opposite(v))
				}
			}
		}
		lists = longer
	}
	return vs
}

// around are the powers of 2 up to the k, and their neighbours, below 0 and
// above it.
func around(k int) []*big.Int {
	var vs []*big.Int
	for i := range k + 1 {
		for x := int64(-1); x <= 1; x++ {
			v := plus(power(2, i), x)
			vs = append(vs, v, opposite(v))
		}
	}
	return vs
}

// long are numbers of so many words, all of them different, and one less,
// below 0 and above it.
func long(words int) []*big.Int {
	v := new(big.Int)
	for k := range words {
		v.Lsh(v, 64).Or(v, new(big.Int).SetUint64(uint64(k+1)*0x9e3779b97f4a7c15))
	}
	w := plus(v, -1)
	return []*big.Int{v, opposite(v), w, opposite(w)}
}

// few are the words at which numbers turn, and some within.
var few = list{0, 1, 2, 7, half - 1, half, half + 1, most}

// edges are what an int just holds, and just does not, and some within.
var edges = []struct {
	text string
	x    int
	fits bool
}{
	{"0", 0, true},
	{"1", 1, true},
	{"-1", -1, true},
	{"12", 12, true},
	{"-12", -12, true},
	{"4294967296", 1 << 32, true},
	{"-4294967296", -1 << 32, true},
	{"9223372036854775806", math.MaxInt - 1, true},
	{"9223372036854775807", math.MaxInt, true},
	{"9223372036854775808", 0, false},
	{"9223372036854775809", 0, false},
	{"-9223372036854775807", math.MinInt + 1, true},
	{"-9223372036854775808", math.MinInt, true},
	{"-9223372036854775809", 0, false},
	{"-9223372036854775810", 0, false},
	{"18446744073709551614", 0, false},
	{"-18446744073709551614", 0, false},
	{"18446744073709551615", 0, false},
	{"-18446744073709551615", 0, false},
	{"18446744073709551616", 0, false},
	{"-18446744073709551616", 0, false},
	{"18446744073709551617", 0, false},
	{"-18446744073709551617", 0, false},
	{"-27670116110564327424", 0, false}, // -2^64 - 2^63
	{"340282366920938463463374607431768211456", 0, false},
	{"-340282366920938463463374607431768211456", 0, false},
}

func TestP71Ints(t *testing.T) {
	for _, c := range edges {
		v := number(c.text)
		a := of(v)
		if x, ok := a.Int(); ok != c.fits || x != c.x {
			t.Errorf("Int of %s = %d, %t; want %d, %t", c.text, x, ok, c.x, c.fits)
		}
		kept(t, a, v)
		if c.fits && !is(integer.Of(c.x), v) {
			t.Errorf("Of(%d) = %d", c.x, value(integer.Of(c.x)))
		}
	}
}

func TestP71SmallestInt(t *testing.T) {
	least := integer.Of(math.MinInt)
	if x, ok := least.Int(); !ok || x != math.MinInt || least.Sign() != -1 || !least.Below() {
		t.Errorf("Int of the smallest int = %d, %t", x, ok)
	}
	if words := least.Abs().Words(); !slices.Equal(words, list{half}) {
		t.Errorf("Abs of the smallest int = %d", words)
	}
	if x, ok := least.Neg().Int(); ok || x != 0 {
		t.Errorf("Int of its opposite = %d, %t; want false", x, ok)
	}
	if x, ok := least.Neg().Neg().Int(); !ok || x != math.MinInt {
		t.Errorf("Int of the opposite of its opposite = %d, %t", x, ok)
	}
	if x, ok := integer.New(true, nat.Of(half)).Int(); !ok || x != math.MinInt {
		t.Errorf("Int of -2^63 = %d, %t", x, ok)
	}
	if x, ok := integer.New(false, nat.Of(half)).Int(); ok || x != 0 {
		t.Errorf("Int of 2^63 = %d, %t; want false", x, ok)
	}
}

// All about the powers of 2 that are ints, and above.
func TestP71IntsOfAll(t *testing.T) {
	for _, v := range slices.Concat(around(140), numbers(2, few)) {
		want, fits := 0, v.IsInt64()
		if fits {
			want = int(v.Int64())
		}
		if x, ok := of(v).Int(); ok != fits || x != want {
			t.Errorf("Int of %d = %d, %t; want %d, %t", v, x, ok, want, fits)
		}
		if fits && !is(integer.Of(want), v) {
			t.Errorf("Of(%d) = %d", want, value(integer.Of(want)))
		}
	}
}

func TestP71NewAndParts(t *testing.T) {
	for _, c := range []struct {
		below bool
		words list
		text  string
		sign  int
	}{
		{false, list{5}, "5", 1},
		{true, list{5}, "-5", -1},
		{false, list{1}, "1", 1},
		{true, list{1}, "-1", -1},
		{false, list{most}, "18446744073709551615", 1},
		{true, list{most}, "-18446744073709551615", -1},
		{false, list{0, 1}, "18446744073709551616", 1},
		{true, list{0, 1}, "-18446744073709551616", -1},
		{true, list{0, 0, 1, 0}, "-340282366920938463463374607431768211456", -1},
		{false, nil, "0", 0},
		{true, nil, "0", 0},
		{true, list{0}, "0", 0},
	} {
		abs := nat.Of(c.words...)
		a := integer.New(c.below, abs)
		v := number(c.text)
		if a.Sign() != c.sign || a.Below() != (c.sign < 0) || nat.Cmp(a.Abs(), abs) != 0 || !is(a, v) {
			t.Errorf("New(%t, %d) has sign %d, %t and words %d", c.below, c.words, a.Sign(), a.Below(), a.Abs().Words())
		}
		if b := a.Neg(); b.Sign() != -c.sign || b.Below() != (c.sign > 0) || nat.Cmp(b.Abs(), abs) != 0 {
			t.Errorf("its opposite has sign %d, %t and words %d", b.Sign(), b.Below(), b.Abs().Words())
		}
		if b := a.Neg().Neg(); !is(b, v) {
			t.Errorf("the opposite of its opposite is %d; want %s", value(b), c.text)
		}
		kept(t, a, v)
	}
}

func TestP71OppositesOfAll(t *testing.T) {
	for _, v := range slices.Concat(around(140), numbers(2, few), long(9)) {
		a := of(v)
		if !is(a, v) {
			t.Errorf("New of %d = %d", v, value(a))
		}
		if b := a.Neg(); !is(b, opposite(v)) {
			t.Errorf("Neg of %d = %d", v, value(b))
		}
		if n := a.Abs(); size(n).CmpAbs(v) != 0 {
			t.Errorf("Abs of %d = %d", v, size(n))
		}
		kept(t, a, v)
	}
}

// quotient and rest are Div's answers, each alone.
func quotient(a, b int) integer.Int {
	q, _, _ := integer.Div(integer.Of(a), integer.Of(b))
	return q
}

func rest(a, b int) integer.Int {
	_, r, _ := integer.Div(integer.Of(a), integer.Of(b))
	return r
}

// 0 is not below 0, whatever it was made with.
func TestP71Nought(t *testing.T) {
	read, _ := integer.Read("0")
	many := integer.New(true, nat.Of(1, 2, 3))
	for k, a := range []integer.Int{
		{},
		integer.Of(0),
		integer.New(false, nat.Nat{}),
		integer.New(true, nat.Nat{}),
		integer.New(true, nat.Of()),
		integer.New(true, nat.Of(0)),
		integer.New(true, nat.Of(0, 0)),
		integer.Int{}.Neg(),
		integer.Of(0).Neg(),
		integer.New(true, nat.Nat{}).Neg(),
		integer.Of(0).Neg().Neg(),
		integer.Add(integer.Of(0), integer.Of(0)),
		integer.Add(integer.Of(5), integer.Of(-5)),
		integer.Add(integer.Of(-5), integer.Of(5)),
		integer.Add(many, many.Neg()),
		integer.Add(many.Neg(), many),
		integer.Sub(integer.Of(0), integer.Of(0)),
		integer.Sub(integer.Of(5), integer.Of(5)),
		integer.Sub(integer.Of(-5), integer.Of(-5)),
		integer.Sub(many, many),
		integer.Sub(integer.New(true, nat.Nat{}), integer.New(true, nat.Nat{})),
		integer.Mul(integer.Of(0), integer.Of(0)),
		integer.Mul(integer.Of(0), integer.Of(-5)),
		integer.Mul(integer.Of(-5), integer.Of(0)),
		integer.Mul(many, integer.Of(0)),
		integer.Mul(integer.Of(0), many),
		quotient(0, 5),
		quotient(0, -5),
		quotient(3, 5),
		quotient(-3, -5),
		rest(0, 5),
		rest(0, -5),
		rest(10, 5),
		rest(10, -5),
		rest(-10, 5),
		rest(-10, -5),
		read,
	} {
		if !nothing(a) {
			x, ok := a.Int()
			t.Errorf("0, made in way %d, is %s: %t, %d, %d, %d, %t", k, a.Text(), a.Below(), a.Sign(), a.Abs().Words(), x, ok)
		}
		if b := integer.Sub(a, integer.Of(3)); !is(b, big.NewInt(-3)) {
			t.Errorf("0, made in way %d, - 3 = %d", k, value(b))
		}
		if b := integer.Add(integer.Of(-3), a); !is(b, big.NewInt(-3)) {
			t.Errorf("-3 + 0, made in way %d, = %d", k, value(b))
		}
		if c := integer.Cmp(a, integer.Of(-1)); c != 1 {
			t.Errorf("Cmp of 0, made in way %d, and -1 = %d", k, c)
		}
	}
}

// A number has nothing to do any more with what it was made of, nor with what
// it tells of itself.
func TestP71SharesNothing(t *testing.T) {
	words := list{5, 7, 9}
	abs := nat.Of(words...)
	a := integer.New(true, abs)
	v := value(a)
	for range 2 {
		told := a.Abs().Words()
		clear(told)
		clear(words)
		clear(abs.Words())
		clear(a.Neg().Abs().Words())
		kept(t, a, v)
	}
	if !slices.Equal(abs.Words(), list{5, 7, 9}) {
		t.Errorf("what was handed in has become %d", abs.Words())
	}
}

// floor is v by w, rounded down, and what is left, as math/big has them. Its
// own quotients are rounded towards 0.
func floor(v, w *big.Int) (*big.Int, *big.Int) {
	q, r := new(big.Int).QuoRem(v, w, new(big.Int))
	if r.Sign() != 0 && r.Sign() != w.Sign() {
		q, r = plus(q, -1), new(big.Int).Add(r, w)
	}
	return q, r
}

// holdDiv has a by b answered as by math/big, and as the chapter has it.
func holdDiv(t *testing.T, v, w *big.Int) {
	t.Helper()
	a, b := of(v), of(w)
	q, r, ok := integer.Div(a, b)
	if w.Sign() == 0 {
		if ok || !nothing(q) || !nothing(r) {
			t.Errorf("Div(%d, 0) = %d, %d, %t; want false", v, value(q), value(r), ok)
		}
		return
	}
	if wantQ, wantR := floor(v, w); !ok || !is(q, wantQ) || !is(r, wantR) {
		t.Errorf("Div(%d, %d) = %d, %d, %t; want %d, %d", v, w, value(q), value(r), ok, wantQ, wantR)
	}
	if integer.Cmp(a, integer.Add(integer.Mul(q, b), r)) != 0 {
		t.Errorf("%d is not %d * %d + %d", v, value(q), w, value(r))
	}
	if r.Sign() != 0 && (r.Sign() != b.Sign() || nat.Cmp(r.Abs(), b.Abs()) >= 0) {
		t.Errorf("%d by %d leaves %d", v, w, value(r))
	}
	kept(t, a, v)
	kept(t, b, w)
}

// hold has all that is asked of two numbers answered as by math/big.
func hold(t *testing.T, v, w *big.Int) {
	t.Helper()
	a, b := of(v), of(w)
	if c := integer.Cmp(a, b); c != v.Cmp(w) {
		t.Errorf("Cmp(%d, %d) = %d", v, w, c)
	}
	if s, want := integer.Add(a, b), new(big.Int).Add(v, w); !is(s, want) {
		t.Errorf("Add(%d, %d) = %d; want %d", v, w, value(s), want)
	}
	if d, want := integer.Sub(a, b), new(big.Int).Sub(v, w); !is(d, want) {
		t.Errorf("Sub(%d, %d) = %d; want %d", v, w, value(d), want)
	}
	if p, want := integer.Mul(a, b), new(big.Int).Mul(v, w); !is(p, want) {
		t.Errorf("Mul(%d, %d) = %d; want %d", v, w, value(p), want)
	}
	kept(t, a, v)
	kept(t, b, w)
	holdDiv(t, v, w)
}

// sums are two numbers, how they stand, and their sum, difference and product.
var sums = []struct {
	a, b            string
	cmp             int
	sum, difference string
	product         string
}{
	{"0", "0", 0, "0", "0", "0"},
	{"0", "5", -1, "5", "-5", "0"},
	{"5", "0", 1, "5", "5", "0"},
	{"0", "-5", 1, "-5", "5", "0"},
	{"-5", "0", -1, "-5", "-5", "0"},
	{"3", "5", -1, "8", "-2", "15"},
	{"5", "3", 1, "8", "2", "15"},
	{"3", "-5", 1, "-2", "8", "-15"},
	{"5", "-3", 1, "2", "8", "-15"},
	{"-3", "5", -1, "2", "-8", "-15"},
	{"-5", "3", -1, "-2", "-8", "-15"},
	{"-3", "-5", 1, "-8", "2", "15"},
	{"-5", "-3", -1, "-8", "-2", "15"},
	{"5", "5", 0, "10", "0", "25"},
	{"5", "-5", 1, "0", "10", "-25"},
	{"-5", "5", -1, "0", "-10", "-25"},
	{"-5", "-5", 0, "-10", "0", "25"},

	// out of an int, and into it again
	{"9223372036854775807", "1", 1, "9223372036854775808", "9223372036854775806", "9223372036854775807"},
	{"-9223372036854775808", "1", -1, "-9223372036854775807", "-9223372036854775809", "-9223372036854775808"},
	{"-9223372036854775808", "-1", -1, "-9223372036854775809", "-9223372036854775807", "9223372036854775808"},
	{"-9223372036854775808", "9223372036854775807", -1, "-1", "-18446744073709551615", "-85070591730234615856620279821087277056"},

	// one word and many
	{"18446744073709551615", "1", 1, "18446744073709551616", "18446744073709551614", "18446744073709551615"},
	{"-18446744073709551615", "-1", -1, "-18446744073709551616", "-18446744073709551614", "18446744073709551615"},
	{"18446744073709551616", "-1", 1, "18446744073709551615", "18446744073709551617", "-18446744073709551616"},
	{"1", "-18446744073709551616", 1, "-18446744073709551615", "18446744073709551617", "-18446744073709551616"},
	{"-340282366920938463463374607431768211455", "340282366920938463463374607431768211456", -1, "1",
		"-680564733841876926926749214863536422911", "-115792089237316195423570985008687907852929702298719625575994209400481361428480"},
}

func TestP72SumsAndProducts(t *testing.T) {
	for _, c := range sums {
		v, w := number(c.a), number(c.b)
		a, b := of(v), of(w)
		if x := integer.Cmp(a, b); x != c.cmp {
			t.Errorf("Cmp(%s, %s) = %d; want %d", c.a, c.b, x, c.cmp)
		}
		if x := integer.Add(a, b); !is(x, number(c.sum)) {
			t.Errorf("Add(%s, %s) = %d; want %s", c.a, c.b, value(x), c.sum)
		}
		if x := integer.Sub(a, b); !is(x, number(c.difference)) {
			t.Errorf("Sub(%s, %s) = %d; want %s", c.a, c.b, value(x), c.difference)
		}
		if x := integer.Mul(a, b); !is(x, number(c.product)) {
			t.Errorf("Mul(%s, %s) = %d; want %s", c.a, c.b, value(x), c.product)
		}
		kept(t, a, v)
		kept(t, b, w)
	}
}

func TestP72Quotients(t *testing.T) {
	for _, c := range []struct{ a, b, q, r string }{
		{"7", "2", "3", "1"},
		{"-7", "2", "-4", "1"},
		{"7", "-2", "-4", "-1"},
		{"-7", "-2", "3", "-1"},

		// with nothing left
		{"8", "2", "4", "0"},
		{"-8", "2", "-4", "0"},
		{"8", "-2", "-4", "0"},
		{"-8", "-2", "4", "0"},
		{"5", "5", "1", "0"},
		{"-5", "5", "-1", "0"},
		{"5", "-5", "-1", "0"},
		{"-5", "-5", "1", "0"},
		{"0", "7", "0", "0"},
		{"0", "-7", "0", "0"},
		{"-7", "1", "-7", "0"},
		{"-7", "-1", "7", "0"},

		// what is left, between 0 and what was divided by, and just beside them
		{"1", "5", "0", "1"},
		{"-1", "5", "-1", "4"},
		{"1", "-5", "-1", "-4"},
		{"-1", "-5", "0", "-1"},
		{"4", "5", "0", "4"},
		{"-4", "5", "-1", "1"},
		{"4", "-5", "-1", "-1"},
		{"-4", "-5", "0", "-4"},
		{"-6", "5", "-2", "4"},
		{"6", "-5", "-2", "-4"},

		// the smallest int, whose opposite is none
		{"-9223372036854775808", "-1", "9223372036854775808", "0"},
		{"-9223372036854775808", "2", "-4611686018427387904", "0"},
		{"-9223372036854775808", "3", "-3074457345618258603", "1"},
		{"-9223372036854775808", "9223372036854775807", "-2", "9223372036854775806"},
		{"1", "-9223372036854775808", "-1", "-9223372036854775807"},

		// one word and many
		{"-1", "18446744073709551616", "-1", "18446744073709551615"},
		{"1", "-18446744073709551616", "-1", "-18446744073709551615"},
		{"-18446744073709551616", "18446744073709551616", "-1", "0"},
		{"-18446744073709551617", "18446744073709551616", "-2", "18446744073709551615"},
		{"18446744073709551617", "-18446744073709551616", "-2", "-18446744073709551615"},
		{"-18446744073709551617", "-18446744073709551616", "1", "-1"},
		{"-18446744073709551616", "3", "-6148914691236517206", "2"},
		{"-340282366920938463463374607431768211456", "18446744073709551617", "-18446744073709551616", "18446744073709551616"},
		{"-340282366920938463463374607431768211456", "18446744073709551615", "-18446744073709551618", "18446744073709551614"},
	} {
		v, w := number(c.a), number(c.b)
		a, b := of(v), of(w)
		q, r, ok := integer.Div(a, b)
		if !ok || !is(q, number(c.q)) || !is(r, number(c.r)) {
			t.Errorf("Div(%s, %s) = %d, %d, %t; want %s, %s", c.a, c.b, value(q), value(r), ok, c.q, c.r)
		}
		kept(t, a, v)
		kept(t, b, w)
	}
}

func TestP72DivisionByNought(t *testing.T) {
	for _, v := range slices.Concat(numbers(2, few), long(5)) {
		for _, nought := range []integer.Int{{}, integer.Of(0), integer.New(true, nat.Nat{}), integer.Of(0).Neg()} {
			a := of(v)
			if q, r, ok := integer.Div(a, nought); ok || !nothing(q) || !nothing(r) {
				t.Errorf("Div(%d, 0) = %d, %d, %t; want false", v, value(q), value(r), ok)
			}
			kept(t, a, v)
		}
	}
}

// The ints have what is asked themselves, where none of it runs over.
func TestP72SmallInts(t *testing.T) {
	answers := func(a integer.Int, x int) bool {
		y, ok := a.Int()
		return ok && y == x
	}
	for x := -70; x <= 70; x++ {
		for y := -70; y <= 70; y++ {
			a, b := integer.Of(x), integer.Of(y)
			if integer.Cmp(a, b) != cmp.Compare(x, y) || !answers(integer.Add(a, b), x+y) ||
				!answers(integer.Sub(a, b), x-y) || !answers(integer.Mul(a, b), x*y) {
				t.Errorf("%d and %d: %d, %s, %s, %s", x, y, integer.Cmp(a, b),
					integer.Add(a, b).Text(), integer.Sub(a, b).Text(), integer.Mul(a, b).Text())
			}
			q, r, ok := integer.Div(a, b)
			if y == 0 {
				if ok || !nothing(q) || !nothing(r) {
					t.Errorf("Div(%d, 0) = %s, %s, %t", x, q.Text(), r.Text(), ok)
				}
				continue
			}
			want := int(math.Floor(float64(x) / float64(y)))
			if !ok || !answers(q, want) || !answers(r, x-want*y) {
				t.Errorf("Div(%d, %d) = %s, %s, %t; want %d", x, y, q.Text(), r.Text(), ok, want)
			}
		}
	}
}

func TestP72OfAll(t *testing.T) {
	vs := numbers(2, few)
	for _, v := range vs {
		for _, w := range vs {
			hold(t, v, w)
		}
	}
}

func TestP72OfMoreWords(t *testing.T) {
	vs := numbers(4, list{0, 1, most})
	for _, v := range vs {
		for _, w := range vs {
			hold(t, v, w)
		}
	}
}

// Neighbours of multiples: what is left is 0, 1, and one less than can be.
func TestP72AroundMultiples(t *testing.T) {
	divisors := numbers(2, list{0, 3, half, most})
	for _, w := range divisors {
		for _, q := range divisors {
			v := new(big.Int).Mul(w, q)
			for x := int64(-1); x <= 1; x++ {
				holdDiv(t, plus(v, x), w)
			}
		}
	}
}

func TestP72Long(t *testing.T) {
	vs := slices.Concat(long(1), long(2), long(3), long(20), long(41))
	for _, v := range vs {
		for _, w := range vs {
			hold(t, v, w)
		}
	}
}

// The chapter has no limit: more bits than a shift or a power may have.
func TestP72HasNoLimit(t *testing.T) {
	v := plus(power(2, api.MaxShift+api.MaxBits+5), -1)
	w := plus(power(2, api.MaxShift), 3)
	for _, a := range []*big.Int{v, opposite(v)} {
		for _, b := range []*big.Int{w, opposite(w)} {
			hold(t, a, b)
			hold(t, b, a)
		}
	}
}

// A number stands beside itself, too.
func TestP72WithItself(t *testing.T) {
	for _, v := range slices.Concat(numbers(2, few), long(5)) {
		a := of(v)
		if integer.Cmp(a, a) != 0 || !nothing(integer.Sub(a, a)) ||
			!is(integer.Add(a, a), new(big.Int).Add(v, v)) || !is(integer.Mul(a, a), new(big.Int).Mul(v, v)) {
			t.Errorf("%d with itself: %d, %d, %d, %d", v, integer.Cmp(a, a),
				value(integer.Sub(a, a)), value(integer.Add(a, a)), value(integer.Mul(a, a)))
		}
		q, r, ok := integer.Div(a, a)
		if v.Sign() != 0 && (!ok || !is(q, big.NewInt(1)) || !nothing(r)) {
			t.Errorf("Div(%d, %d) = %d, %d, %t", v, v, value(q), value(r), ok)
		}
		kept(t, a, v)
	}
}

// short is a text, or how it begins and ends, if it is long.
func short(s string) string {
	if len(s) <= 80 {
		return s
	}
	return s[:40] + ".." + s[len(s)-40:]
}

// holdText has a number's text answered as by math/big and by layer 6, and
// read again.
func holdText(t *testing.T, v *big.Int) {
	t.Helper()
	a, want := of(v), v.String()
	s := a.Text()
	if s != want {
		t.Errorf("Text(%s) = %s", short(want), short(s))
	}
	if strings.TrimPrefix(s, "-") != digits.Text(a.Abs()) {
		t.Errorf("Text(%s) has other digits than %s", short(want), short(digits.Text(a.Abs())))
	}
	kept(t, a, v)
	read, ok := integer.Read(want)
	if !ok || !is(read, v) || integer.Cmp(read, a) != 0 {
		t.Errorf("Read(%s) = %s, %t", short(want), short(value(read).String()), ok)
	}
}

func TestP73Examples(t *testing.T) {
	for _, c := range []struct {
		below bool
		words list
		text  string
	}{
		{false, nil, "0"},
		{true, nil, "0"},
		{false, list{1}, "1"},
		{true, list{1}, "-1"},
		{false, list{12}, "12"},
		{true, list{12}, "-12"},
		{false, list{100}, "100"},
		{true, list{100}, "-100"},
		{true, list{half}, "-9223372036854775808"},
		{false, list{half}, "9223372036854775808"},
		{true, list{most}, "-18446744073709551615"},
		{true, list{0, 1}, "-18446744073709551616"},
		{false, list{0, 1}, "18446744073709551616"},
		{true, list{0, 0, 1}, "-340282366920938463463374607431768211456"},
	} {
		a := integer.New(c.below, nat.Of(c.words...))
		if s := a.Text(); s != c.text {
			t.Errorf("Text of %t, %d = %s; want %s", c.below, c.words, s, c.text)
		}
		if b, ok := integer.Read(c.text); !ok || !is(b, number(c.text)) || b.Text() != c.text {
			t.Errorf("Read(%s) = %d, %t", c.text, value(b), ok)
		}
	}
	if s := (integer.Int{}).Text(); s != "0" {
		t.Errorf("Text of the zero Int = %q", s)
	}
}

// unread fails the test, if a text is read as any number's.
func unread(t *testing.T, s string) {
	t.Helper()
	if a, ok := integer.Read(s); ok || !nothing(a) {
		t.Errorf("Read(%q) = %d, %t; want false", s, value(a), ok)
	}
}

// What is no number's text, each with and without a sign ahead.
func TestP73WrongTexts(t *testing.T) {
	for _, s := range []string{
		"", "-", "--", "--1", "---1", "--0", "+", "+1", "+0", "+-1", "-+1", "- 1", " -1", "-1 ", "-1-", "1-", "1-1", "0-",
		"00", "01", "007", "000", "0 ", "0.", "0x1", "0b1", "0o7",
		" ", " 1", "1 ", "1 1", "\t1", "1\n", "\n", "\n1", "\x00", "\x001", "1\x00",
		"a", "1a", "a1", "ff", "1.", ".1", "1.0", "1,000", "1_000", "_1", "1e3", "1/2", "1/1", "(1)",
		"\xff", "1\xff", "\u0661", "\uff11", "\u00b2", "\ufeff1",
		"\u22121", "\u20131", "\uff0d1", "\u00ad1", // dashes elsewhere
		"zero", "NaN", "Inf", "nil",
	} {
		unread(t, s)
		unread(t, "-"+s)
	}
	unread(t, "-0")
	unread(t, "-00")
	unread(t, "-007")
}

func TestP73NoughtsAhead(t *testing.T) {
	for noughts := 1; noughts < 45; noughts++ {
		ahead := strings.Repeat("0", noughts)
		unread(t, "-"+ahead)
		for _, s := range []string{"1", "9", "10", "1234567890123456789", "18446744073709551616"} {
			unread(t, ahead+s)
			unread(t, "-"+ahead+s)
			unread(t, ahead+"-"+s)
		}
	}
}

// Each byte at each place of a text of each length: a sign goes ahead alone,
// and a digit anywhere, but no 0 ahead.
func TestP73EachByteAtAnyPlace(t *testing.T) {
	for size := 1; size < 45; size++ {
		for place := range size {
			for _, sign := range []string{"", "-"} {
				text := append([]byte(sign), bytes.Repeat([]byte{'7'}, size)...)
				for x := range 256 {
					text[len(sign)+place] = byte(x)
					s := string(text)
					digit := '1' <= x && x <= '9' || x == '0' && (place > 0 || s == "0")
					if !digit && !(x == '-' && place == 0 && sign == "" && size > 1) {
						unread(t, s)
						continue
					}
					if a, ok := integer.Read(s); !ok || !is(a, number(s)) || a.Text() != s {
						t.Errorf("Read(%s) = %d, %t", s, value(a), ok)
					}
				}
			}
		}
	}
}

func TestP73OfSmallNumbers(t *testing.T) {
	for x := int64(-3000); x <= 3000; x++ {
		holdText(t, big.NewInt(x))
	}
}

func TestP73OfAll(t *testing.T) {
	for _, v := range slices.Concat(numbers(3, few), around(300), long(9), long(40)) {
		holdText(t, v)
	}
	for k := range 120 {
		for x := int64(-1); x <= 1; x++ {
			v := plus(power(10, k), x)
			holdText(t, v)
			holdText(t, opposite(v))
		}
	}
}

// The chapter has no limit: more bits than a shift or a power may have.
func TestP73HasNoLimit(t *testing.T) {
	v := plus(power(2, api.MaxShift+api.MaxBits), -1)
	holdText(t, v)
	holdText(t, opposite(v))
	s := opposite(v).String()
	unread(t, "-"+s)
	unread(t, s+"x")
	unread(t, "-0"+s[1:])
}
