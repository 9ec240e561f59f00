package rat_test

import (
	"cmp"
	"math"
	"math/big"
	"slices"
	"testing"

	"actuary/api"
	"actuary/integer"
	"actuary/nat"
	"actuary/rat"
)

const (
	half = 1 << 63
	most = 1<<64 - 1
)

// list is some words, the lowest first, as nat.Nat has them.
type list = []uint64

// natural is the Nat of a number, its sign left out.
func natural(v *big.Int) nat.Nat {
	var words list
	w := new(big.Int).Abs(v)
	for w.Sign() > 0 {
		words = append(words, new(big.Int).And(w, new(big.Int).SetUint64(most)).Uint64())
		w.Rsh(w, 64)
	}
	return nat.Of(words...)
}

// whole is the Int of a number.
func whole(v *big.Int) integer.Int {
	return integer.New(v.Sign() < 0, natural(v))
}

// size is the number of a Nat, by its words.
func size(n nat.Nat) *big.Int {
	v := new(big.Int)
	for _, x := range slices.Backward(n.Words()) {
		v.Lsh(v, 64).Or(v, new(big.Int).SetUint64(x))
	}
	return v
}

// number is that of an Int.
func number(n integer.Int) *big.Int {
	v := size(n.Abs())
	if n.Below() {
		v.Neg(v)
	}
	return v
}

// value is the fraction of a Rat.
func value(a rat.Rat) *big.Rat {
	den := size(a.Den())
	if den.Sign() == 0 {
		return new(big.Rat).SetInt64(math.MinInt64) // none of the tests asks for it
	}
	return new(big.Rat).SetFrac(number(a.Num()), den)
}

// of is the Rat of a fraction.
func of(v *big.Rat) rat.Rat {
	a, _ := rat.New(whole(v.Num()), whole(v.Denom()))
	return a
}

// by is p by q.
func by(p, q int) rat.Rat {
	a, _ := rat.Of(p, q)
	return a
}

// fraction is that of a text.
func fraction(s string) *big.Rat {
	v, ok := new(big.Rat).SetString(s)
	if !ok {
		panic(s)
	}
	return v
}

// integral is a number's text's.
func integral(s string) *big.Int {
	v, ok := new(big.Int).SetString(s, 10)
	if !ok {
		panic(s)
	}
	return v
}

// power is x to the k.
func power(x int64, k int) *big.Int {
	return new(big.Int).Exp(big.NewInt(x), big.NewInt(int64(k)), nil)
}

// plus is v + x.
func plus(v *big.Int, x int64) *big.Int {
	return new(big.Int).Add(v, big.NewInt(x))
}

// times is v * w.
func times(v, w *big.Int) *big.Int {
	return new(big.Int).Mul(v, w)
}

// opposite is -v.
func opposite(v *big.Rat) *big.Rat {
	return new(big.Rat).Neg(v)
}

// isNumber tells whether an Int is v.
func isNumber(n integer.Int, v *big.Int) bool {
	return number(n).Cmp(v) == 0 && n.Sign() == v.Sign()
}

// is tells whether a is v by all that tells of it. The parts of v have no
// common divisor, as math/big has them.
func is(a rat.Rat, v *big.Rat) bool {
	den := a.Den()
	return isNumber(a.Num(), v.Num()) && size(den).Cmp(v.Denom()) == 0 &&
		den.Len() == (v.Denom().BitLen()+63)/64 &&
		a.Sign() == v.Sign() && a.Zero() == (v.Sign() == 0) && a.IsInt() == v.IsInt() &&
		a.Bits() == v.Num().BitLen()+v.Denom().BitLen()
}

// isJust tells whether a is just p by q, whose only common divisor is 1.
func isJust(a rat.Rat, p, q int) bool {
	return is(a, big.NewRat(int64(p), int64(q)))
}

// nothing tells whether a is 0 by 1 in every answer.
func nothing(a rat.Rat) bool {
	num, numOk := a.Num().Int()
	den, denOk := a.Den().Uint()
	return num == 0 && numOk && den == 1 && denOk && a.Den().Len() == 1 && !a.Num().Below() &&
		a.Sign() == 0 && a.Zero() && a.IsInt() && a.Bits() == 1 &&
		rat.Same(a, rat.Rat{}) && rat.Same(rat.Rat{}, a) && rat.Cmp(a, rat.Rat{}) == 0
}

// kept fails the test, if a fraction that was handed in is not any more what it was.
func kept(t *testing.T, a rat.Rat, v *big.Rat) {
	t.Helper()
	if !is(a, v) {
		t.Fatalf("%s has become %s", v, value(a))
	}
}

// numbers are those above 0 of up to so many words that are among some few.
func numbers(words int, few list) []*big.Int {
	var vs []*big.Int
	lists := []list{nil}
	for range words {
		var longer []list
		for _, low := range lists {
			for _, x := range few {
				next := append(slices.Clone(low), x)
				longer = append(longer, next)
				if x != 0 {
					vs = append(vs, size(nat.Of(next...)))
				}
			}
		}
		lists = longer
	}
	return vs
}

// fractions are all by all of some numbers above 0, below 0 and above it, each
// once, and 0.
func fractions(vs []*big.Int) []*big.Rat {
	all := []*big.Rat{new(big.Rat)}
	seen := map[string]int{}
	for _, v := range vs {
		for _, w := range vs {
			u := new(big.Rat).SetFrac(v, w)
			seen[u.String()]++
			if seen[u.String()] == 1 {
				all = append(all, u, opposite(u))
			}
		}
	}
	return all
}

// long is a number of so many words, all of them different.
func long(words int) *big.Int {
	v := new(big.Int)
	for k := range words {
		v.Lsh(v, 64).Or(v, new(big.Int).SetUint64(uint64(k+1)*0x9e3779b97f4a7c15))
	}
	return v
}

// longOnes are fractions of long parts, with something in common and without,
// below 0 and above it.
func longOnes() []*big.Rat {
	var all []*big.Rat
	for _, words := range []int{1, 2, 3, 20} {
		v, w := long(words), plus(long(words+1), -1)
		for _, u := range []*big.Rat{
			new(big.Rat).SetFrac(v, w),
			new(big.Rat).SetFrac(w, v),
			new(big.Rat).SetFrac(plus(times(v, w), 1), v),
			new(big.Rat).SetFrac(plus(v, 1), power(2, 64*words)),
			new(big.Rat).SetFrac(big.NewInt(1), times(v, w)),
			new(big.Rat).SetInt(w),
		} {
			all = append(all, u, opposite(u))
		}
	}
	return all
}

func TestP81Examples(t *testing.T) {
	for _, c := range []struct {
		p, q     int
		num, den int
		bits     int
	}{
		{6, -4, -3, 2, 4},
		{-6, 4, -3, 2, 4},
		{6, 4, 3, 2, 4},
		{-6, -4, 3, 2, 4},

		// whole ones
		{1, 1, 1, 1, 2},
		{-1, 1, -1, 1, 2},
		{1, -1, -1, 1, 2},
		{-1, -1, 1, 1, 2},
		{7, 1, 7, 1, 4},
		{7, 7, 1, 1, 2},
		{7, -7, -1, 1, 2},
		{8, 4, 2, 1, 3},
		{8, -4, -2, 1, 3},
		{-8, -4, 2, 1, 3},
		{255, 1, 255, 1, 9},
		{256, 1, 256, 1, 10},

		// parts with nothing in common
		{1, 2, 1, 2, 3},
		{1, -2, -1, 2, 3},
		{2, 3, 2, 3, 4},
		{-2, 3, -2, 3, 4},
		{1, 7, 1, 7, 4},
		{1, 8, 1, 8, 5},
		{7, 8, 7, 8, 7},
		{-8, 7, -8, 7, 7},
		{-25, -36, 25, 36, 11},

		// with something
		{2, 4, 1, 2, 3},
		{4, 2, 2, 1, 3},
		{12, 18, 2, 3, 4},
		{-18, 12, -3, 2, 4},
		{35, -21, -5, 3, 5},
		{1000000, 3000, 1000, 3, 12},

		// 0
		{0, 1, 0, 1, 1},
		{0, -1, 0, 1, 1},
		{0, 7, 0, 1, 1},
		{0, -8, 0, 1, 1},
	} {
		a, ok := rat.Of(c.p, c.q)
		num, _ := a.Num().Int()
		den, _ := a.Den().Uint()
		if !ok || num != c.num || den != uint64(c.den) || a.Bits() != c.bits {
			t.Errorf("Of(%d, %d) = %d / %d of %d bits, %t; want %d / %d of %d", c.p, c.q, num, den, a.Bits(), ok, c.num, c.den, c.bits)
		}
		if a.Sign() != cmp.Compare(c.num, 0) || a.Zero() != (c.num == 0) || a.IsInt() != (c.den == 1) {
			t.Errorf("Of(%d, %d) has %d, %t, %t", c.p, c.q, a.Sign(), a.Zero(), a.IsInt())
		}
		if b, ok := rat.New(integer.Of(c.p), integer.Of(c.q)); !ok || !isJust(b, c.num, c.den) || !rat.Same(a, b) {
			t.Errorf("New(%d, %d) = %s, %t", c.p, c.q, value(b), ok)
		}
	}
}

func TestP81SmallestInt(t *testing.T) {
	const least = math.MinInt
	for _, c := range []struct {
		p, q int
		want string
	}{
		{least, 1, "-9223372036854775808"},
		{least, -1, "9223372036854775808"},
		{least, 2, "-4611686018427387904"},
		{least, -2, "4611686018427387904"},
		{least, 3, "-9223372036854775808/3"},
		{least, -6, "4611686018427387904/3"},
		{least, math.MaxInt, "-9223372036854775808/9223372036854775807"},
		{least, -math.MaxInt, "9223372036854775808/9223372036854775807"},
		{least, least, "1"},
		{1, least, "-1/9223372036854775808"},
		{-1, least, "1/9223372036854775808"},
		{2, least, "-1/4611686018427387904"},
		{-6, least, "3/4611686018427387904"},
		{math.MaxInt, least, "-9223372036854775807/9223372036854775808"},
		{-math.MaxInt, least, "9223372036854775807/9223372036854775808"},
		{0, least, "0"},
	} {
		if a, ok := rat.Of(c.p, c.q); !ok || !is(a, fraction(c.want)) {
			t.Errorf("Of(%d, %d) = %s, %t; want %s", c.p, c.q, value(a), ok, c.want)
		}
	}
	if a, ok := rat.Of(least, 0); ok || !nothing(a) {
		t.Errorf("Of(%d, 0) = %s, %t; want false", least, value(a), ok)
	}
	if a := rat.Int(least); !is(a, fraction("-9223372036854775808")) {
		t.Errorf("Int(%d) = %s", least, value(a))
	}
}

// noughts is 0 as an Int, made in some ways.
func noughts() []integer.Int {
	return []integer.Int{{}, integer.Of(0), integer.New(true, nat.Nat{}), integer.Of(0).Neg(), integer.Sub(integer.Of(5), integer.Of(5))}
}

func TestP81ByNought(t *testing.T) {
	for _, x := range []int{0, 1, -1, 2, -6, 1 << 32, math.MaxInt, math.MinInt, math.MinInt + 1} {
		if a, ok := rat.Of(x, 0); ok || !nothing(a) {
			t.Errorf("Of(%d, 0) = %s, %t; want false", x, value(a), ok)
		}
	}
	for _, v := range slices.Concat(numbers(2, few), []*big.Int{new(big.Int), long(9)}) {
		for _, nought := range noughts() {
			for _, n := range []integer.Int{whole(v), whole(v).Neg()} {
				if a, ok := rat.New(n, nought); ok || !nothing(a) {
					t.Errorf("New(%s, 0) = %s, %t; want false", n.Text(), value(a), ok)
				}
			}
		}
	}
}

// few are the words at which numbers turn, and some within.
var few = list{0, 1, 2, 3, 10, half, most}

// 0 is 0 by 1, whatever it was made with.
func TestP81Nought(t *testing.T) {
	var made []rat.Rat
	for _, nought := range noughts() {
		for _, den := range []integer.Int{integer.Of(1), integer.Of(-1), integer.Of(6), integer.Of(-6), integer.New(true, nat.Of(0, 0, 4))} {
			a, ok := rat.New(nought, den)
			if !ok {
				t.Errorf("New(0, %s) = false", den.Text())
			}
			made = append(made, a)
		}
		made = append(made, rat.Whole(nought))
	}
	many, _ := rat.New(integer.New(true, nat.Of(1, 2, 3)), integer.New(false, nat.Of(0, 5)))
	byNought, _ := rat.Of(5, 0)
	ofNothing, _ := rat.Rat{}.Inv()
	failed, _ := rat.Div(by(1, 2), rat.Rat{})
	quotient, _ := rat.Div(rat.Rat{}, by(-1, 2))
	made = append(made,
		rat.Rat{}, rat.Int(0), byNought, ofNothing, failed, quotient,
		rat.Rat{}.Neg(), rat.Int(0).Neg(), rat.Int(0).Neg().Neg(), rat.Rat{}.Abs(), rat.Int(0).Neg().Abs(),
		rat.Add(rat.Rat{}, rat.Rat{}), rat.Add(rat.Int(5), rat.Int(-5)), rat.Add(rat.Int(-5), rat.Int(5)),
		rat.Add(by(1, 6), by(-1, 6)), rat.Add(by(-1, 6), by(2, 12)), rat.Add(many, many.Neg()), rat.Add(many.Neg(), many),
		rat.Sub(rat.Rat{}, rat.Rat{}), rat.Sub(rat.Int(5), rat.Int(5)), rat.Sub(by(-1, 6), by(-1, 6)), rat.Sub(many, many),
		rat.Mul(rat.Rat{}, rat.Rat{}), rat.Mul(rat.Rat{}, by(-1, 2)), rat.Mul(by(-1, 2), rat.Rat{}), rat.Mul(rat.Int(-3), rat.Rat{}),
		rat.Mul(many, rat.Int(0)), rat.Mul(rat.Int(0), many),
		rat.Min(rat.Rat{}, rat.Int(0).Neg()), rat.Max(rat.Int(-1), rat.Rat{}), rat.Min(by(1, 2), rat.Rat{}),
		rat.Sum(), rat.Sum(rat.Rat{}), rat.Sum(rat.Rat{}, rat.Rat{}), rat.Sum(by(1, 2), by(1, 3), by(-5, 6)), rat.Sum(many, many.Neg()),
		rat.Whole(by(1, 2).Floor()), rat.Whole(by(-1, 2).Ceil()), rat.Whole(rat.Rat{}.Num()),
	)
	for k, a := range made {
		if !nothing(a) {
			t.Errorf("0, made in way %d, is %s / %d: %d, %t, %t, %d", k, a.Num().Text(), a.Den().Words(), a.Sign(), a.Zero(), a.IsInt(), a.Bits())
		}
		holdNought(t, k, a)
	}
}

// holdNought has 0 be 0 in all that is asked of it and another one.
func holdNought(t *testing.T, k int, a rat.Rat) {
	t.Helper()
	if b, ok := a.Inv(); ok || !nothing(b) {
		t.Errorf("Inv of 0, made in way %d, = %s, %t", k, value(b), ok)
	}
	if !nothing(a.Neg()) || !nothing(a.Abs()) || a.Floor().Sign() != 0 || a.Ceil().Sign() != 0 {
		t.Errorf("0, made in way %d: %s, %s, %s, %s", k, value(a.Neg()), value(a.Abs()), a.Floor().Text(), a.Ceil().Text())
	}
	for _, x := range []rat.Rat{by(-3, 2), by(3, 2), rat.Int(-3), rat.Int(3)} {
		v := value(x)
		if !is(rat.Add(a, x), v) || !is(rat.Add(x, a), v) || !is(rat.Sub(x, a), v) || !is(rat.Sub(a, x), opposite(v)) ||
			!nothing(rat.Mul(a, x)) || !nothing(rat.Mul(x, a)) {
			t.Errorf("0, made in way %d, and %s: %s, %s, %s, %s, %s, %s", k, v, value(rat.Add(a, x)), value(rat.Add(x, a)),
				value(rat.Sub(x, a)), value(rat.Sub(a, x)), value(rat.Mul(a, x)), value(rat.Mul(x, a)))
		}
		if q, ok := rat.Div(a, x); !ok || !nothing(q) {
			t.Errorf("0, made in way %d, by %s = %s, %t", k, v, value(q), ok)
		}
		if q, ok := rat.Div(x, a); ok || !nothing(q) {
			t.Errorf("%s by 0, made in way %d, = %s, %t", v, k, value(q), ok)
		}
		if rat.Cmp(a, x) != -v.Sign() || rat.Cmp(x, a) != v.Sign() || rat.Same(a, x) {
			t.Errorf("0, made in way %d, against %s: %d, %d, %t", k, v, rat.Cmp(a, x), rat.Cmp(x, a), rat.Same(a, x))
		}
	}
}

// Only 1 divides both parts: by trial of all that could.
func TestP81SmallParts(t *testing.T) {
	for p := -40; p <= 40; p++ {
		for q := -40; q <= 40; q++ {
			a, ok := rat.Of(p, q)
			if q == 0 {
				if ok || !nothing(a) {
					t.Errorf("Of(%d, 0) = %s, %t", p, value(a), ok)
				}
				continue
			}
			x, _ := a.Num().Int()
			y := int(a.Den().Word(0))
			if !ok || y <= 0 || a.Den().Len() != 1 || x*q != p*y {
				t.Errorf("Of(%d, %d) = %d / %d, %t", p, q, x, y, ok)
			}
			for d := 2; d <= y; d++ {
				if x%d == 0 && y%d == 0 {
					t.Errorf("Of(%d, %d) = %d / %d: %d divides both", p, q, x, y, d)
				}
			}
			if !is(a, big.NewRat(int64(p), int64(q))) {
				t.Errorf("Of(%d, %d) has %d, %t, %t, %d", p, q, a.Sign(), a.Zero(), a.IsInt(), a.Bits())
			}
		}
	}
}

// Parts of one word and of many, in every pairing of signs.
func TestP81PartsOfAll(t *testing.T) {
	vs := append(numbers(2, few), long(3), long(9), power(2, 200), power(3, 90))
	for _, v := range vs {
		for _, w := range vs {
			for _, signs := range [][2]bool{{false, false}, {false, true}, {true, false}, {true, true}} {
				num, den := integer.New(signs[0], natural(v)), integer.New(signs[1], natural(w))
				want := new(big.Rat).SetFrac(number(num), number(den))
				a, ok := rat.New(num, den)
				if !ok || !is(a, want) {
					t.Errorf("New(%s, %s) = %s, %t; want %s", num.Text(), den.Text(), value(a), ok, want)
				}
				if number(num).CmpAbs(v) != 0 || number(den).CmpAbs(w) != 0 || num.Below() != signs[0] || den.Below() != signs[1] {
					t.Fatalf("New changed %s and %s", num.Text(), den.Text())
				}
			}
		}
	}
}

// What is in both parts goes out of them, however much it is.
func TestP81InCommon(t *testing.T) {
	factors := []*big.Int{big.NewInt(1), big.NewInt(2), big.NewInt(15), power(2, 64), power(2, 300), plus(power(2, 64), -1), plus(power(2, 127), -1), long(5), long(20)}
	for _, v := range slices.Concat(longOnes(), []*big.Rat{fraction("0"), fraction("1"), fraction("-1"), fraction("1/2"), fraction("-7/3"), fraction("5")}) {
		for _, k := range factors {
			for _, w := range []*big.Int{k, new(big.Int).Neg(k)} {
				a, ok := rat.New(whole(times(v.Num(), w)), whole(times(v.Denom(), w)))
				if !ok || !is(a, v) || !rat.Same(a, of(v)) {
					t.Errorf("New of %s, both times %d, = %s, %t", v, w, value(a), ok)
				}
			}
		}
	}
}

func TestP81Whole(t *testing.T) {
	for _, x := range []int{0, 1, -1, 2, -2, 3, 255, 256, -256, 1 << 31, 1 << 32, -1 << 32, 1<<62 - 1, math.MaxInt - 1, math.MaxInt, math.MinInt, math.MinInt + 1} {
		want := new(big.Rat).SetInt64(int64(x))
		if a := rat.Int(x); !is(a, want) || !a.IsInt() {
			t.Errorf("Int(%d) = %s", x, value(a))
		}
		if a := rat.Whole(integer.Of(x)); !is(a, want) || !rat.Same(a, rat.Int(x)) {
			t.Errorf("Whole(%d) = %s", x, value(a))
		}
		if a, ok := rat.Of(x, 1); !ok || !rat.Same(a, rat.Int(x)) {
			t.Errorf("Of(%d, 1) = %s, %t", x, value(a), ok)
		}
	}
	for _, v := range slices.Concat(numbers(3, few), []*big.Int{long(9), power(2, 500)}) {
		for _, n := range []integer.Int{whole(v), whole(v).Neg()} {
			if a := rat.Whole(n); !is(a, new(big.Rat).SetInt(number(n))) || integer.Cmp(a.Num(), n) != 0 {
				t.Errorf("Whole(%s) = %s", n.Text(), value(a))
			}
		}
	}
}

// A fraction has nothing to do any more with what it was made of, nor with
// what it tells of itself, nor with what is made of it.
func TestP81SharesNothing(t *testing.T) {
	top, bottom := list{5, 7, 9}, list{0, 3}
	num, den := integer.New(true, nat.Of(top...)), integer.New(false, nat.Of(bottom...))
	a, _ := rat.New(num, den)
	b := rat.Whole(num)
	v, w := value(a), value(b)
	for range 2 {
		clear(top)
		clear(bottom)
		clear(num.Abs().Words())
		for _, c := range []rat.Rat{a, b, a.Neg(), a.Abs(), rat.Min(a, b), rat.Max(a, b), rat.Add(a, rat.Rat{}), rat.Mul(a, rat.Int(1)), rat.Sum(a)} {
			clear(c.Num().Abs().Words())
			clear(c.Den().Words())
		}
		kept(t, a, v)
		kept(t, b, w)
	}
	if !slices.Equal(num.Abs().Words(), list{5, 7, 9}) || !slices.Equal(den.Abs().Words(), list{0, 3}) {
		t.Errorf("what was handed in has become %s and %s", num.Text(), den.Text())
	}
}

// holdOne has all that is asked of one fraction answered as by math/big.
func holdOne(t *testing.T, v *big.Rat) {
	t.Helper()
	a := of(v)
	if b := a.Neg(); !is(b, opposite(v)) || !is(b.Neg(), v) {
		t.Errorf("Neg of %s = %s, and again %s", v, value(b), value(b.Neg()))
	}
	if b := a.Abs(); !is(b, new(big.Rat).Abs(v)) {
		t.Errorf("Abs of %s = %s", v, value(b))
	}
	b, ok := a.Inv()
	if v.Sign() == 0 && (ok || !nothing(b)) {
		t.Errorf("Inv of 0 = %s, %t; want false", value(b), ok)
	}
	if v.Sign() != 0 && (!ok || !is(b, new(big.Rat).Inv(v))) {
		t.Errorf("Inv of %s = %s, %t", v, value(b), ok)
	}
	kept(t, a, v)
	holdRounding(t, v)
}

// hold has all that is asked of two fractions answered as by math/big.
func hold(t *testing.T, v, w *big.Rat) {
	t.Helper()
	a, b := of(v), of(w)
	if s, want := rat.Add(a, b), new(big.Rat).Add(v, w); !is(s, want) {
		t.Errorf("Add(%s, %s) = %s; want %s", v, w, value(s), want)
	}
	if d, want := rat.Sub(a, b), new(big.Rat).Sub(v, w); !is(d, want) {
		t.Errorf("Sub(%s, %s) = %s; want %s", v, w, value(d), want)
	}
	if p, want := rat.Mul(a, b), new(big.Rat).Mul(v, w); !is(p, want) {
		t.Errorf("Mul(%s, %s) = %s; want %s", v, w, value(p), want)
	}
	q, ok := rat.Div(a, b)
	if w.Sign() == 0 && (ok || !nothing(q)) {
		t.Errorf("Div(%s, 0) = %s, %t; want false", v, value(q), ok)
	}
	if w.Sign() != 0 && (!ok || !is(q, new(big.Rat).Quo(v, w))) {
		t.Errorf("Div(%s, %s) = %s, %t", v, w, value(q), ok)
	}
	kept(t, a, v)
	kept(t, b, w)
	holdOrder(t, v, w)
}

// holdOrder has two fractions stand as math/big has them.
func holdOrder(t *testing.T, v, w *big.Rat) {
	t.Helper()
	a, b := of(v), of(w)
	less, more := v, w
	if v.Cmp(w) > 0 {
		less, more = w, v
	}
	if c := rat.Cmp(a, b); c != v.Cmp(w) {
		t.Errorf("Cmp(%s, %s) = %d", v, w, c)
	}
	if same := rat.Same(a, b); same != (v.Cmp(w) == 0) {
		t.Errorf("Same(%s, %s) = %t", v, w, same)
	}
	if m := rat.Min(a, b); !is(m, less) {
		t.Errorf("Min(%s, %s) = %s", v, w, value(m))
	}
	if m := rat.Max(a, b); !is(m, more) {
		t.Errorf("Max(%s, %s) = %s", v, w, value(m))
	}
	kept(t, a, v)
	kept(t, b, w)
}

func TestP82Examples(t *testing.T) {
	for _, c := range []struct{ a, b, sum, difference, product, quotient string }{
		{"1/2", "1/3", "5/6", "1/6", "1/6", "3/2"},
		{"1/2", "-1/3", "1/6", "5/6", "-1/6", "-3/2"},
		{"-1/2", "1/3", "-1/6", "-5/6", "-1/6", "-3/2"},
		{"-1/2", "-1/3", "-5/6", "-1/6", "1/6", "3/2"},
		{"1/3", "1/2", "5/6", "-1/6", "1/6", "2/3"},
		{"1/3", "-1/2", "-1/6", "5/6", "-1/6", "-2/3"},

		// whole ones, and one whole one
		{"2", "3", "5", "-1", "6", "2/3"},
		{"6", "-4", "2", "10", "-24", "-3/2"},
		{"-6", "3", "-3", "-9", "-18", "-2"},
		{"2", "1/3", "7/3", "5/3", "2/3", "6"},
		{"-1/3", "2", "5/3", "-7/3", "-2/3", "-1/6"},
		{"3", "-2/3", "7/3", "11/3", "-2", "-9/2"},
		{"1", "1/2", "3/2", "1/2", "1/2", "2"},

		// what is whole again
		{"1/2", "1/2", "1", "0", "1/4", "1"},
		{"1/2", "-1/2", "0", "1", "-1/4", "-1"},
		{"-1/2", "-1/2", "-1", "0", "1/4", "1"},
		{"5/6", "1/6", "1", "2/3", "5/36", "5"},
		{"2/3", "3/2", "13/6", "-5/6", "1", "4/9"},
		{"2/3", "-3/2", "-5/6", "13/6", "-1", "-4/9"},
		{"4/3", "3/4", "25/12", "7/12", "1", "16/9"},

		// what has something in common, only after all
		{"1/6", "1/10", "4/15", "1/15", "1/60", "5/3"},
		{"1/6", "1/3", "1/2", "-1/6", "1/18", "1/2"},
		{"1/3", "1/6", "1/2", "1/6", "1/18", "2"},
		{"1/12", "1/4", "1/3", "-1/6", "1/48", "1/3"},
		{"7/12", "5/12", "1", "1/6", "35/144", "7/5"},
		{"1/15", "1/10", "1/6", "-1/30", "1/150", "2/3"},
		{"3/10", "2/15", "13/30", "1/6", "1/25", "9/4"},
		{"10/21", "14/15", "148/105", "-16/35", "4/9", "25/49"},
		{"6/35", "-35/6", "-1189/210", "1261/210", "-1", "-36/1225"},

		// 0
		{"0", "5/3", "5/3", "-5/3", "0", "0"},
		{"0", "-5/3", "-5/3", "5/3", "0", "0"},

		// one word and many
		{"1/18446744073709551616", "1/18446744073709551616", "1/9223372036854775808", "0", "1/340282366920938463463374607431768211456", "1"},
		{"1/18446744073709551615", "1/18446744073709551617", "36893488147419103232/340282366920938463463374607431768211455",
			"2/340282366920938463463374607431768211455", "1/340282366920938463463374607431768211455", "18446744073709551617/18446744073709551615"},
		{"18446744073709551616", "-1/18446744073709551616", "340282366920938463463374607431768211455/18446744073709551616",
			"340282366920938463463374607431768211457/18446744073709551616", "-1", "-340282366920938463463374607431768211456"},
	} {
		v, w := fraction(c.a), fraction(c.b)
		a, b := of(v), of(w)
		q, ok := rat.Div(a, b)
		if !is(rat.Add(a, b), fraction(c.sum)) || !is(rat.Sub(a, b), fraction(c.difference)) ||
			!is(rat.Mul(a, b), fraction(c.product)) || !ok || !is(q, fraction(c.quotient)) {
			t.Errorf("%s and %s: %s, %s, %s, %s, %t; want %s, %s, %s, %s", c.a, c.b, value(rat.Add(a, b)), value(rat.Sub(a, b)),
				value(rat.Mul(a, b)), value(q), ok, c.sum, c.difference, c.product, c.quotient)
		}
		kept(t, a, v)
		kept(t, b, w)
	}
}

func TestP82One(t *testing.T) {
	for _, c := range []struct{ a, neg, abs, inv string }{
		{"-3/2", "3/2", "3/2", "-2/3"},
		{"3/2", "-3/2", "3/2", "2/3"},
		{"2/3", "-2/3", "2/3", "3/2"},
		{"1", "-1", "1", "1"},
		{"-1", "1", "1", "-1"},
		{"5", "-5", "5", "1/5"},
		{"-5", "5", "5", "-1/5"},
		{"1/5", "-1/5", "1/5", "5"},
		{"-1/5", "1/5", "1/5", "-5"},
		{"-9223372036854775808", "9223372036854775808", "9223372036854775808", "-1/9223372036854775808"},
		{"-1/18446744073709551616", "1/18446744073709551616", "1/18446744073709551616", "-18446744073709551616"},
		{"18446744073709551617/18446744073709551616", "-18446744073709551617/18446744073709551616",
			"18446744073709551617/18446744073709551616", "18446744073709551616/18446744073709551617"},
	} {
		a := of(fraction(c.a))
		b, ok := a.Inv()
		if !is(a.Neg(), fraction(c.neg)) || !is(a.Abs(), fraction(c.abs)) || !ok || !is(b, fraction(c.inv)) {
			t.Errorf("%s: %s, %s, %s, %t", c.a, value(a.Neg()), value(a.Abs()), value(b), ok)
		}
		kept(t, a, fraction(c.a))
	}
}

func TestP82ByNought(t *testing.T) {
	for _, v := range slices.Concat(fractions(numbers(1, few)), longOnes()) {
		for _, nought := range []rat.Rat{{}, rat.Int(0), by(0, -3), rat.Int(0).Neg(), rat.Sub(by(1, 3), by(1, 3))} {
			a := of(v)
			if q, ok := rat.Div(a, nought); ok || !nothing(q) {
				t.Errorf("Div(%s, 0) = %s, %t; want false", v, value(q), ok)
			}
			if b, ok := nought.Inv(); ok || !nothing(b) {
				t.Errorf("Inv of 0 = %s, %t; want false", value(b), ok)
			}
			kept(t, a, v)
		}
	}
}

// counted are the numbers from 1 to n.
func counted(n int) []*big.Int {
	vs := make([]*big.Int, n)
	for k := range vs {
		vs[k] = big.NewInt(int64(k + 1))
	}
	return vs
}

// The parts have what is asked themselves, where none of it runs over.
func TestP82SmallParts(t *testing.T) {
	for p := -6; p <= 6; p++ {
		for q := 1; q <= 6; q++ {
			for x := -6; x <= 6; x++ {
				for y := 1; y <= 6; y++ {
					a, b := by(p, q), by(x, y)
					if !rat.Same(rat.Add(a, b), by(p*y+x*q, q*y)) || !rat.Same(rat.Sub(a, b), by(p*y-x*q, q*y)) ||
						!rat.Same(rat.Mul(a, b), by(p*x, q*y)) || rat.Cmp(a, b) != cmp.Compare(p*y, x*q) {
						t.Errorf("%d/%d and %d/%d: %s, %s, %s, %d", p, q, x, y,
							value(rat.Add(a, b)), value(rat.Sub(a, b)), value(rat.Mul(a, b)), rat.Cmp(a, b))
					}
					d, ok := rat.Div(a, b)
					if ok != (x != 0) || x != 0 && !rat.Same(d, by(p*y, q*x)) || x == 0 && !nothing(d) {
						t.Errorf("Div(%d/%d, %d/%d) = %s, %t", p, q, x, y, value(d), ok)
					}
				}
			}
		}
	}
}

func TestP82OfSmallParts(t *testing.T) {
	vs := fractions(counted(16))
	for _, v := range vs {
		holdOne(t, v)
		for _, w := range vs {
			hold(t, v, w)
		}
	}
}

func TestP82OfAll(t *testing.T) {
	vs := fractions(slices.Concat(numbers(2, list{0, 1, most}), numbers(1, list{6, half}), []*big.Int{power(2, 128), times(power(2, 65), big.NewInt(15))}))
	for _, v := range vs {
		holdOne(t, v)
		for _, w := range vs {
			hold(t, v, w)
		}
	}
}

func TestP82Long(t *testing.T) {
	vs := longOnes()
	for _, v := range vs {
		holdOne(t, v)
		for _, w := range vs {
			hold(t, v, w)
		}
	}
}

// Denominators that share some of what they have, and numerators that take out
// each of it in turn.
func TestP82InCommon(t *testing.T) {
	factors := []*big.Int{big.NewInt(1), big.NewInt(2), big.NewInt(9), power(2, 65), plus(power(2, 61), -1), power(3, 50)}
	var vs []*big.Rat
	for _, x := range factors {
		for _, y := range factors {
			for _, top := range []*big.Int{big.NewInt(1), big.NewInt(5), plus(x, 1), plus(y, -1), plus(times(x, y), 1)} {
				vs = append(vs, new(big.Rat).SetFrac(top, times(x, y)))
			}
		}
	}
	for k, v := range vs {
		for _, w := range vs[:k+1] {
			hold(t, v, w)
			hold(t, v, opposite(w))
			// What is left to 1, and to a part of v, has to come out again.
			rest := new(big.Rat).Sub(w, v)
			if !is(rat.Add(of(v), of(rest)), w) || !is(rat.Sub(of(w), of(rest)), v) {
				t.Errorf("%s + %s = %s", v, rest, value(rat.Add(of(v), of(rest))))
			}
		}
	}
}

// The chapter has no limit: more bits than a shift or a power may have.
func TestP82HasNoLimit(t *testing.T) {
	v := new(big.Rat).SetFrac(plus(power(2, api.MaxShift+api.MaxBits+5), -1), power(2, api.MaxShift+1))
	w := new(big.Rat).SetFrac(power(3, 7), plus(power(2, api.MaxBits+3), 1))
	for _, u := range []*big.Rat{v, w} {
		holdOne(t, u)
		hold(t, u, u)
	}
	hold(t, v, w)
	hold(t, opposite(w), v)
}

// A fraction stands beside itself, too.
func TestP82WithItself(t *testing.T) {
	for _, v := range slices.Concat(fractions(counted(12)), longOnes()) {
		a := of(v)
		if !is(rat.Add(a, a), new(big.Rat).Add(v, v)) || !nothing(rat.Sub(a, a)) || !is(rat.Mul(a, a), new(big.Rat).Mul(v, v)) {
			t.Errorf("%s with itself: %s, %s, %s", v, value(rat.Add(a, a)), value(rat.Sub(a, a)), value(rat.Mul(a, a)))
		}
		if q, ok := rat.Div(a, a); v.Sign() != 0 && (!ok || !isJust(q, 1, 1)) {
			t.Errorf("Div(%s, %s) = %s, %t", v, v, value(q), ok)
		}
		if rat.Cmp(a, a) != 0 || !rat.Same(a, a) || !is(rat.Min(a, a), v) || !is(rat.Max(a, a), v) {
			t.Errorf("%s against itself: %d, %t", v, rat.Cmp(a, a), rat.Same(a, a))
		}
		kept(t, a, v)
	}
}

func TestP82Sum(t *testing.T) {
	for _, c := range []struct {
		texts []string
		want  string
	}{
		{nil, "0"},
		{[]string{"0"}, "0"},
		{[]string{"5"}, "5"},
		{[]string{"-3/2"}, "-3/2"},
		{[]string{"18446744073709551617/18446744073709551616"}, "18446744073709551617/18446744073709551616"},
		{[]string{"0", "0"}, "0"},
		{[]string{"1/2", "1/3"}, "5/6"},
		{[]string{"1/2", "1/2", "0"}, "1"},
		{[]string{"1/2", "-1/2"}, "0"},
		{[]string{"1", "2", "3", "4"}, "10"},
		{[]string{"1/2", "1/3", "1/6"}, "1"},
		{[]string{"1/2", "1/3", "-5/6"}, "0"},
		{[]string{"1/2", "1/4", "1/8", "1/16", "1/32"}, "31/32"},
		{[]string{"-1/2", "0", "7", "-1/3", "2/5"}, "197/30"},
		{[]string{"1/18446744073709551616", "1/18446744073709551616", "-1/9223372036854775808", "2/7"}, "2/7"},
	} {
		var as []rat.Rat
		for _, s := range c.texts {
			as = append(as, of(fraction(s)))
		}
		if s := rat.Sum(as...); !is(s, fraction(c.want)) {
			t.Errorf("Sum(%q) = %s; want %s", c.texts, value(s), c.want)
		}
		for k, s := range c.texts {
			kept(t, as[k], fraction(s))
		}
	}
	if !nothing(rat.Sum()) || !nothing(rat.Sum([]rat.Rat{}...)) {
		t.Errorf("Sum of nothing = %s", value(rat.Sum()))
	}
}

// Each number of summands, each as by math/big.
func TestP82SumOfMany(t *testing.T) {
	want := new(big.Rat)
	var as []rat.Rat
	var vs []*big.Rat
	for k := range 80 {
		v := big.NewRat(int64((k*k)%17-8), int64(k%13+1))
		as, vs = append(as, of(v)), append(vs, v)
		want.Add(want, v)
		if s := rat.Sum(as...); !is(s, want) {
			t.Errorf("Sum of %d = %s; want %s", k+1, value(s), want)
		}
		back := slices.Clone(as)
		slices.Reverse(back)
		if s := rat.Sum(back...); !is(s, want) {
			t.Errorf("Sum of %d the other way round = %s; want %s", k+1, value(s), want)
		}
	}
	for k, a := range as {
		kept(t, a, vs[k])
	}
	// 1/2 + 1/6 + .. + 1/(n(n+1)) is n/(n+1).
	as = nil
	for n := 1; n <= 200; n++ {
		as = append(as, by(1, n*(n+1)))
	}
	if s := rat.Sum(as...); !isJust(s, 200, 201) {
		t.Errorf("Sum = %s; want 200/201", value(s))
	}
}

func TestP83Order(t *testing.T) {
	// From the least to the greatest.
	texts := []string{
		"-340282366920938463463374607431768211456", "-18446744073709551617", "-18446744073709551616", "-18446744073709551615",
		"-9223372036854775808", "-100", "-2", "-5/3", "-3/2", "-18446744073709551617/18446744073709551616", "-1",
		"-18446744073709551615/18446744073709551616", "-2/3", "-1/2", "-1/3", "-1/18446744073709551616", "-1/340282366920938463463374607431768211456",
		"0",
		"1/340282366920938463463374607431768211456", "1/18446744073709551616", "1/18446744073709551615", "1/100", "1/3", "2/5", "1/2", "3/5", "2/3",
		"9223372036854775807/9223372036854775808", "18446744073709551615/18446744073709551616", "1",
		"18446744073709551617/18446744073709551616", "18446744073709551616/18446744073709551615", "3/2", "5/3", "2",
		"100", "9223372036854775807", "9223372036854775808", "18446744073709551615", "18446744073709551616", "36893488147419103233/2",
		"18446744073709551617", "340282366920938463463374607431768211456",
	}
	for j, s := range texts {
		for k, u := range texts {
			a, b := of(fraction(s)), of(fraction(u))
			if c := rat.Cmp(a, b); c != cmp.Compare(j, k) {
				t.Errorf("Cmp(%s, %s) = %d", s, u, c)
			}
			if rat.Same(a, b) != (j == k) {
				t.Errorf("Same(%s, %s) = %t", s, u, rat.Same(a, b))
			}
			if m := rat.Min(a, b); !is(m, fraction(texts[min(j, k)])) {
				t.Errorf("Min(%s, %s) = %s", s, u, value(m))
			}
			if m := rat.Max(a, b); !is(m, fraction(texts[max(j, k)])) {
				t.Errorf("Max(%s, %s) = %s", s, u, value(m))
			}
			kept(t, a, fraction(s))
			kept(t, b, fraction(u))
		}
	}
}

// One number, made in two ways, is the same; with a part of another, it is not.
func TestP83Same(t *testing.T) {
	for _, c := range []struct {
		a, b rat.Rat
		same bool
	}{
		{by(1, 2), by(2, 4), true},
		{by(1, -2), by(-1, 2), true},
		{by(-3, -9), by(1, 3), true},
		{rat.Int(2), by(8, 4), true},
		{rat.Rat{}, by(0, -7), true},
		{rat.Add(by(1, 3), by(1, 6)), by(1, 2), true},
		{rat.Mul(by(2, 3), by(3, 2)), rat.Int(1), true},
		{by(1, 2), by(1, 3), false},
		{by(1, 2), by(3, 2), false},
		{by(1, 2), by(-1, 2), false},
		{by(1, 2), rat.Int(1), false},
		{by(1, 2), rat.Int(2), false},
		{rat.Int(1), rat.Int(-1), false},
		{rat.Rat{}, rat.Int(1), false},
	} {
		if rat.Same(c.a, c.b) != c.same || rat.Same(c.b, c.a) != c.same || (rat.Cmp(c.a, c.b) == 0) != c.same {
			t.Errorf("Same(%s, %s) = %t, Cmp = %d", value(c.a), value(c.b), rat.Same(c.a, c.b), rat.Cmp(c.a, c.b))
		}
	}
}

// Neighbours that differ in the last bit of the product alone.
func TestP83Neighbours(t *testing.T) {
	for _, k := range []int{1, 2, 31, 32, 33, 63, 64, 65, 127, 128, 200} {
		n := power(2, k)
		for _, v := range []*big.Rat{
			new(big.Rat).SetFrac(n, plus(n, 1)),
			new(big.Rat).SetFrac(plus(n, 1), n),
			new(big.Rat).SetFrac(big.NewInt(1), n),
		} {
			for _, w := range []*big.Rat{
				new(big.Rat).SetFrac(plus(n, 1), plus(n, 2)),
				new(big.Rat).SetFrac(plus(n, 2), plus(n, 1)),
				new(big.Rat).SetFrac(big.NewInt(1), plus(n, 1)),
				new(big.Rat).SetInt64(1),
				v,
			} {
				holdOrder(t, v, w)
				holdOrder(t, w, v)
				holdOrder(t, opposite(v), opposite(w))
				holdOrder(t, v, opposite(w))
			}
		}
	}
}

// holdRounding has both whole numbers about a fraction as the chapter has them:
// none is nearer.
func holdRounding(t *testing.T, v *big.Rat) {
	t.Helper()
	a := of(v)
	floor, ceil := a.Floor(), a.Ceil()
	down, up := new(big.Rat).SetInt(number(floor)), new(big.Rat).SetInt(number(ceil))
	one := big.NewRat(1, 1)
	if down.Cmp(v) > 0 || new(big.Rat).Add(down, one).Cmp(v) <= 0 {
		t.Errorf("Floor of %s = %s", v, floor.Text())
	}
	if up.Cmp(v) < 0 || new(big.Rat).Sub(up, one).Cmp(v) >= 0 {
		t.Errorf("Ceil of %s = %s", v, ceil.Text())
	}
	kept(t, a, v)
}

func TestP83Rounding(t *testing.T) {
	for _, c := range []struct{ a, floor, ceil string }{
		{"-3/2", "-2", "-1"},
		{"3/2", "1", "2"},

		// whole ones
		{"0", "0", "0"},
		{"1", "1", "1"},
		{"-1", "-1", "-1"},
		{"2", "2", "2"},
		{"-2", "-2", "-2"},
		{"-9223372036854775808", "-9223372036854775808", "-9223372036854775808"},
		{"18446744073709551616", "18446744073709551616", "18446744073709551616"},

		// just below them, and just above
		{"-1/1000000", "-1", "0"},
		{"1/1000000", "0", "1"},
		{"999999/1000000", "0", "1"},
		{"1000001/1000000", "1", "2"},
		{"-999999/1000000", "-1", "0"},
		{"-1000001/1000000", "-2", "-1"},
		{"1/2", "0", "1"},
		{"-1/2", "-1", "0"},
		{"1999999/1000000", "1", "2"},
		{"-2000001/1000000", "-3", "-2"},
		{"7/3", "2", "3"},
		{"8/3", "2", "3"},
		{"-7/3", "-3", "-2"},
		{"-8/3", "-3", "-2"},

		// one word and many
		{"18446744073709551615/18446744073709551616", "0", "1"},
		{"18446744073709551617/18446744073709551616", "1", "2"},
		{"-18446744073709551615/18446744073709551616", "-1", "0"},
		{"-18446744073709551617/18446744073709551616", "-2", "-1"},
		{"36893488147419103231/2", "18446744073709551615", "18446744073709551616"},
		{"36893488147419103233/2", "18446744073709551616", "18446744073709551617"},
		{"-36893488147419103231/2", "-18446744073709551616", "-18446744073709551615"},
		{"-36893488147419103233/2", "-18446744073709551617", "-18446744073709551616"},
		{"1/340282366920938463463374607431768211456", "0", "1"},
		{"-1/340282366920938463463374607431768211456", "-1", "0"},
		{"340282366920938463463374607431768211456/3", "113427455640312821154458202477256070485", "113427455640312821154458202477256070486"},
		{"-340282366920938463463374607431768211456/3", "-113427455640312821154458202477256070486", "-113427455640312821154458202477256070485"},
	} {
		a := of(fraction(c.a))
		if floor, ceil := a.Floor(), a.Ceil(); !isNumber(floor, integral(c.floor)) || !isNumber(ceil, integral(c.ceil)) {
			t.Errorf("%s lies between %s and %s; want %s and %s", c.a, floor.Text(), ceil.Text(), c.floor, c.ceil)
		}
		kept(t, a, fraction(c.a))
	}
}

func TestP83RoundingOfSmallParts(t *testing.T) {
	for p := -100; p <= 100; p++ {
		for q := 1; q <= 25; q++ {
			a := by(p, q)
			floor, _ := a.Floor().Int()
			ceil, _ := a.Ceil().Int()
			x := float64(p) / float64(q)
			if floor != int(math.Floor(x)) || ceil != int(math.Ceil(x)) {
				t.Errorf("%d/%d lies between %d and %d", p, q, floor, ceil)
			}
		}
	}
}

// Multiples, and one less and one more, by their denominators.
func TestP83AroundMultiples(t *testing.T) {
	vs := slices.Concat(numbers(2, list{0, 1, 3, half, most}), []*big.Int{long(3), long(9)})
	for _, v := range vs {
		for _, w := range vs {
			for x := int64(-1); x <= 1; x++ {
				u := new(big.Rat).SetFrac(plus(times(v, w), x), w)
				holdRounding(t, u)
				holdRounding(t, opposite(u))
			}
		}
	}
}
