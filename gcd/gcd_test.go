package gcd_test

import (
	"math/big"
	"slices"
	"testing"

	"actuary/api"
	"actuary/gcd"
	"actuary/nat"
)

const (
	half = 1 << 63
	most = 1<<64 - 1
)

// list is some words, the lowest first, as nat.Nat has them.
type list = []uint64

// numbers are those of up to so many words that are among some few: 0 too, and
// every way for noughts to stand below and between.
func numbers(words int, few list) []nat.Nat {
	ns := []nat.Nat{nat.Of()}
	lists := []list{nil}
	for range words {
		var longer []list
		for _, low := range lists {
			for _, x := range few {
				digits := append(slices.Clone(low), x)
				longer = append(longer, digits)
				if x != 0 {
					ns = append(ns, nat.Of(digits...))
				}
			}
		}
		lists = longer
	}
	return ns
}

// nats are numbers, each by its words.
func nats(lists []list) []nat.Nat {
	ns := make([]nat.Nat, len(lists))
	for k, words := range lists {
		ns[k] = nat.Of(words...)
	}
	return ns
}

// long is a number of some words, all of them different.
func long(words int) nat.Nat {
	digits := make(list, words)
	for k := range digits {
		digits[k] = uint64(k+1) * 0x9e3779b97f4a7c15
	}
	return nat.Of(digits...)
}

// two is 2 to the k, which may be above the limit of a shift.
func two(k int) nat.Nat {
	return nat.Of(append(make(list, k/64), 1<<(k%64))...)
}

// more is n + 1, and less is n - 1.
func more(n nat.Nat) nat.Nat { return nat.Add(n, nat.Of(1)) }

func less(n nat.Nat) nat.Nat {
	d, _ := nat.Sub(n, nat.Of(1))
	return d
}

// value is the number of a Nat, by its words.
func value(n nat.Nat) *big.Int {
	v := new(big.Int)
	for _, x := range slices.Backward(n.Words()) {
		v.Lsh(v, 64).Or(v, new(big.Int).SetUint64(x))
	}
	return v
}

// values are the numbers of Nats.
func values(ns []nat.Nat) []*big.Int {
	vs := make([]*big.Int, len(ns))
	for k, n := range ns {
		vs[k] = value(n)
	}
	return vs
}

// natural is the Nat of a number.
func natural(v *big.Int) nat.Nat {
	var words list
	w := new(big.Int).Set(v)
	for w.Sign() > 0 {
		words = append(words, new(big.Int).And(w, new(big.Int).SetUint64(most)).Uint64())
		w.Rsh(w, 64)
	}
	return nat.Of(words...)
}

// times is a * b.
func times(a, b nat.Nat) nat.Nat {
	return natural(new(big.Int).Mul(value(a), value(b)))
}

// fibonacci is a number of Fibonacci's. Between neighbours Euclid's divisions
// are as many as can be, and all of them leave the most.
func fibonacci(k int) nat.Nat {
	a, b := nat.Of(0), nat.Of(1)
	for range k {
		a, b = b, nat.Add(a, b)
	}
	return a
}

// is tells whether n is v, and in good form: the last of its words is not 0.
func is(n nat.Nat, v *big.Int) bool {
	return value(n).Cmp(v) == 0 && n.Len() == (v.BitLen()+63)/64
}

// has tells whether n has just these words.
func has(n nat.Nat, words list) bool {
	return slices.Equal(n.Words(), words) && n.Len() == len(words) && n.Zero() == (len(words) == 0)
}

// common is what math/big has for Of; for 0 and 0 it has 0, too.
func common(v, w *big.Int) *big.Int {
	return new(big.Int).GCD(nil, nil, v, w)
}

// multiple is what math/big has for Lcm.
func multiple(v, w *big.Int) *big.Int {
	product := new(big.Int).Mul(v, w)
	if product.Sign() == 0 {
		return product
	}
	return product.Quo(product, common(v, w))
}

// without is v by w; v itself, if w is 0.
func without(v, w *big.Int) *big.Int {
	if w.Sign() == 0 {
		return v
	}
	return new(big.Int).Quo(v, w)
}

// kept fails the test, if numbers that were handed in are not any more what they were.
func kept(t *testing.T, ns []nat.Nat, vs []*big.Int) {
	for k, n := range ns {
		if !is(n, vs[k]) {
			t.Fatalf("%x has become %x", vs[k], value(n))
		}
	}
}

// hold has all that is asked of two numbers answered as by math/big.
func hold(t *testing.T, a, b nat.Nat) {
	v, w := value(a), value(b)
	want := common(v, w)
	if n := gcd.Of(a, b); !is(n, want) {
		t.Errorf("Of(%x, %x) = %x; want %x", v, w, value(n), want)
	}
	if n, want := gcd.Lcm(a, b), multiple(v, w); !is(n, want) {
		t.Errorf("Lcm(%x, %x) = %x; want %x", v, w, value(n), want)
	}
	if one := want.Cmp(big.NewInt(1)) == 0; gcd.Coprime(a, b) != one {
		t.Errorf("Coprime(%x, %x) = %t", v, w, !one)
	}
	wantX, wantY := without(v, want), without(w, want)
	if x, y := gcd.Reduce(a, b); !is(x, wantX) || !is(y, wantY) {
		t.Errorf("Reduce(%x, %x) = %x, %x; want %x, %x", v, w, value(x), value(y), wantX, wantY)
	}
	kept(t, []nat.Nat{a, b}, []*big.Int{v, w})
}

// pairs are two numbers, and what Of and Lcm are of them.
var pairs = []struct{ a, b, common, multiple list }{
	{list{12}, list{18}, list{6}, list{36}},
	{list{4}, list{6}, list{2}, list{12}},
	{list{4}, list{9}, list{1}, list{36}},
	{list{48}, list{36}, list{12}, list{144}},

	// one of them 0, and both
	{nil, nil, nil, nil},
	{list{0}, list{0, 0}, nil, nil},
	{nil, list{1}, list{1}, nil},
	{nil, list{5}, list{5}, nil},
	{nil, list{8}, list{8}, nil},
	{nil, list{most}, list{most}, nil},
	{list{0, 0}, list{0, 6}, list{0, 6}, nil},
	{nil, list{5, 7, 9}, list{5, 7, 9}, nil},

	// the same
	{list{1}, list{1}, list{1}, list{1}},
	{list{6}, list{6}, list{6}, list{6}},
	{list{most}, list{most}, list{most}, list{most}},
	{list{0, 1}, list{0, 1}, list{0, 1}, list{0, 1}},
	{list{5, 7, 9}, list{5, 7, 9, 0}, list{5, 7, 9}, list{5, 7, 9}},

	// one that divides the other
	{list{1}, list{7}, list{1}, list{7}},
	{list{1}, list{5, 7, 9}, list{1}, list{5, 7, 9}},
	{list{7}, list{42}, list{7}, list{42}},
	{list{8}, list{64}, list{8}, list{64}},
	{list{3}, list{most, most}, list{3}, list{most, most}},
	{list{2}, list{0, 1}, list{2}, list{0, 1}},
	{list{0, 1}, list{0, 0, 1}, list{0, 1}, list{0, 0, 1}},
	{list{5, 7}, list{10, 29, 21}, list{5, 7}, list{10, 29, 21}},

	// nothing in common but 1
	{list{2}, list{most}, list{1}, list{most - 1, 1}},
	{list{most - 1}, list{most}, list{1}, list{2, most - 2}},
	{list{0, 1}, list{1, 1}, list{1}, list{0, 1, 1}},
	{list{1, 1}, list{most, most}, list{1, 1}, list{most, most}},
	{list{0, 1}, list{most}, list{1}, list{0, most}},
	{list{0, 0, 1}, list{5, 7}, list{1}, list{0, 0, 5, 7}},

	// of one word and of many
	{list{0, 3}, list{9}, list{3}, list{0, 9}},
	{list{0, 0, 7}, list{14}, list{14}, list{0, 0, 7}},
	{list{10, 29, 21}, list{4}, list{2}, list{20, 58, 42}},
	{list{10, 29, 21}, list{6}, list{6}, list{10, 29, 21}},
	{list{0, 6}, list{0, 0, 9}, list{0, 6}, list{0, 0, 9}},
	{list{0, 15}, list{0, 0, 9}, list{0, 3}, list{0, 0, 45}},
	{list{0, 6}, list{0, 9}, list{0, 3}, list{0, 18}},
	{list{0, 12}, list{0, 8}, list{0, 4}, list{0, 24}},
	{list{0, half}, list{0, 0, half}, list{0, half}, list{0, 0, half}},
	{list{10, 14}, list{15, 21}, list{5, 7}, list{30, 42}},
	{list{0, 10, 14}, list{0, 15, 21}, list{0, 5, 7}, list{0, 30, 42}},
	{list{20, 28}, list{0, 5, 7}, list{20, 28}, list{0, 5, 7}},
	{list{0, 20, 28}, list{50, 70}, list{10, 14}, list{0, 100, 140}},
}

func TestP51Examples(t *testing.T) {
	for _, c := range pairs {
		for _, ab := range [][2]list{{c.a, c.b}, {c.b, c.a}} {
			a, b := nat.Of(ab[0]...), nat.Of(ab[1]...)
			if n := gcd.Of(a, b); !has(n, c.common) {
				t.Errorf("Of(%d, %d) = %d; want %d", ab[0], ab[1], n.Words(), c.common)
			}
			if n := gcd.Lcm(a, b); !has(n, c.multiple) {
				t.Errorf("Lcm(%d, %d) = %d; want %d", ab[0], ab[1], n.Words(), c.multiple)
			}
			if one := slices.Equal(c.common, list{1}); gcd.Coprime(a, b) != one {
				t.Errorf("Coprime(%d, %d) = %t", ab[0], ab[1], !one)
			}
		}
	}
}

func TestP51CoprimeExamples(t *testing.T) {
	for _, c := range []struct {
		a, b list
		want bool
	}{
		{nil, nil, false},
		{nil, list{1}, true},
		{nil, list{2}, false},
		{nil, list{1, 1}, false},
		{list{1}, list{1}, true},
		{list{2}, list{2}, false},
		{list{0, 2}, list{0, 3}, false}, // 2^64 in common: its lowest word is 0
		{list{1, 1}, list{2, 2}, false}, // 2^64 + 1 in common: its lowest word is 1
		{list{1, 1}, list{3, 3}, false},
		{list{1, 1}, list{2, 1}, true},
	} {
		if got := gcd.Coprime(nat.Of(c.a...), nat.Of(c.b...)); got != c.want {
			t.Errorf("Coprime(%d, %d) = %t; want %t", c.a, c.b, got, c.want)
		}
	}
}

// Of two small numbers each one is tried: no outcome is left to chance.
func TestP51OfSmallNumbersByTrial(t *testing.T) {
	for a := range uint64(60) {
		for b := range uint64(60) {
			want := max(a, b)
			for want > 0 && a*b != 0 && (a%want != 0 || b%want != 0) {
				want--
			}
			if x, one := gcd.Of(nat.Of(a), nat.Of(b)).Uint(); !one || x != want {
				t.Errorf("Of(%d, %d) = %d, %t; want %d", a, b, x, one, want)
			}
			least := a
			for a*b != 0 && least%b != 0 {
				least += a
			}
			if b == 0 {
				least = 0
			}
			if x, one := gcd.Lcm(nat.Of(a), nat.Of(b)).Uint(); !one || x != least {
				t.Errorf("Lcm(%d, %d) = %d, %t; want %d", a, b, x, one, least)
			}
			if got := gcd.Coprime(nat.Of(a), nat.Of(b)); got != (want == 1) {
				t.Errorf("Coprime(%d, %d) = %t", a, b, got)
			}
		}
	}
}

func TestP51AndReduceOfAll(t *testing.T) {
	ns := numbers(3, list{0, 1, 6, half, most - 1, most})
	for _, a := range ns {
		for _, b := range ns {
			hold(t, a, b)
		}
	}
}

// What is put into two numbers that have nothing else in common comes out of
// them again.
func TestP51AndReduceOfWhatIsPutIn(t *testing.T) {
	ins := append(numbers(3, list{0, 1, 12, half, most})[1:], long(9), two(700), less(two(700)))
	for _, pair := range [][2]nat.Nat{
		{nat.Of(1), nat.Of(1)},
		{nat.Of(2), nat.Of(3)},
		{nat.Of(1), two(130)},
		{nat.Of(most), two(70)},
		{less(two(127)), less(two(128))},
		{two(128), more(two(128))},
		{fibonacci(90), fibonacci(91)},
		{fibonacci(400), fibonacci(401)},
		{long(5), more(long(5))},
	} {
		for _, in := range ins {
			a, b := times(pair[0], in), times(pair[1], in)
			if n := gcd.Of(a, b); nat.Cmp(n, in) != 0 {
				t.Errorf("Of(%x, %x) = %x; want %x", value(a), value(b), value(n), value(in))
			}
			if x, y := gcd.Reduce(a, b); nat.Cmp(x, pair[0]) != 0 || nat.Cmp(y, pair[1]) != 0 {
				t.Errorf("Reduce(%x, %x) = %x, %x", value(a), value(b), value(x), value(y))
			}
			hold(t, a, b)
			hold(t, b, a)
			hold(t, a, more(b))
		}
	}
}

// With all the ways for 2 to divide the one, the other, and both.
func TestP51AndReduceAtEachPowerOfTwo(t *testing.T) {
	for _, a := range []nat.Nat{nat.Of(1), nat.Of(45), nat.Of(1, 1), long(3)} {
		for _, b := range []nat.Nat{nat.Of(1), nat.Of(75), nat.Of(3, 3), long(4)} {
			for i := 0; i < 200; i += 21 {
				for j := range 140 {
					hold(t, times(a, two(i)), times(b, two(j)))
				}
			}
		}
	}
}

func TestP51AndReduceOfLongNumbers(t *testing.T) {
	var ns []nat.Nat
	for _, words := range []int{1, 2, 3, 7, 32, 33, 100} {
		n := long(words)
		ns = append(ns, n, more(n), times(n, nat.Of(360)), two(64*words), less(two(64*words)), fibonacci(92*words))
	}
	for _, a := range ns {
		for _, b := range ns {
			hold(t, a, b)
			hold(t, times(a, b), b)
			hold(t, times(a, b), more(b))
		}
	}
}

func TestP51AndReduceOfNeighbours(t *testing.T) {
	for k := range 300 {
		a, b := fibonacci(k), fibonacci(k+1)
		hold(t, a, b)
		hold(t, times(a, nat.Of(10)), times(b, nat.Of(10)))
		hold(t, less(two(k)), two(k))
		hold(t, less(two(k)), more(two(k)))
	}
}

// A power of 2 in common has no limit, as a shift has.
func TestP51AndReduceOfAnyPowerOfTwo(t *testing.T) {
	var ns []nat.Nat
	for _, k := range []int{api.MaxShift - 1, api.MaxShift, api.MaxShift + 1, 2*api.MaxShift + 3} {
		for _, odd := range []nat.Nat{nat.Of(1), nat.Of(45), times(long(3), nat.Of(75, 1))} {
			ns = append(ns, times(odd, two(k)))
		}
	}
	for k, a := range ns {
		for _, b := range ns[:k+1] {
			hold(t, a, b)
		}
	}
	above := two(2*api.MaxShift + 3)
	n := gcd.Of(times(above, nat.Of(3, 45)), times(above, nat.Of(9, 75)))
	if nat.Cmp(n, times(above, nat.Of(3))) != 0 {
		t.Errorf("Of two numbers with 2^%d in common has %d bits, and %d twos", above.Twos(), n.Bits(), n.Twos())
	}
}

func TestP51AndReduceHaveNoLimit(t *testing.T) {
	n := long(1040) // 66560 bits: more than a power or a shift may have
	for _, m := range []nat.Nat{{}, nat.Of(1), nat.Of(2), nat.Of(most), nat.Of(0, 30), two(70000), n, more(n), times(n, n), times(n, long(3))} {
		hold(t, n, m)
		hold(t, m, n)
	}
	hold(t, n, times(long(520), long(519)))
}

func TestP52ReduceExamples(t *testing.T) {
	for _, c := range []struct{ a, b, x, y list }{
		{list{12}, list{18}, list{2}, list{3}},
		{nil, list{7}, nil, list{1}},
		{list{7}, nil, list{1}, nil},
		{list{0, 0}, list{5, 7, 9}, nil, list{1}},
		{list{5, 7, 9}, nil, list{1}, nil},

		// both 0: as they were
		{nil, nil, nil, nil},
		{list{0}, list{0, 0}, nil, nil},

		// the same, one that divides the other, nothing in common
		{list{1}, list{1}, list{1}, list{1}},
		{list{most}, list{most}, list{1}, list{1}},
		{list{5, 7, 9}, list{5, 7, 9}, list{1}, list{1}},
		{list{6}, list{42}, list{1}, list{7}},
		{list{42}, list{6}, list{7}, list{1}},
		{list{5, 7}, list{10, 29, 21}, list{1}, list{2, 3}},
		{list{10, 29, 21}, list{5, 7}, list{2, 3}, list{1}},
		{list{4}, list{9}, list{4}, list{9}},
		{list{0, 1}, list{1, 1}, list{0, 1}, list{1, 1}},
		{list{5, 7, 9}, list{1}, list{5, 7, 9}, list{1}},

		// of one word and of many
		{list{0, 3}, list{9}, list{0, 1}, list{3}},
		{list{2}, list{0, 1}, list{1}, list{half}},
		{list{0, 15}, list{0, 0, 9}, list{5}, list{0, 3}},
		{list{0, 0, 9}, list{0, 15}, list{0, 3}, list{5}},
		{list{0, 6}, list{0, 0, 9}, list{1}, list{half, 1}},
		{list{0, 10, 14}, list{0, 15, 21}, list{2}, list{3}},
	} {
		a, b := nat.Of(c.a...), nat.Of(c.b...)
		if x, y := gcd.Reduce(a, b); !has(x, c.x) || !has(y, c.y) {
			t.Errorf("Reduce(%d, %d) = %d, %d; want %d, %d", c.a, c.b, x.Words(), y.Words(), c.x, c.y)
		}
		if !has(a, nat.Of(c.a...).Words()) || !has(b, nat.Of(c.b...).Words()) {
			t.Errorf("%d and %d have become %d and %d", c.a, c.b, a.Words(), b.Words())
		}
	}
}

func TestP52AllExamples(t *testing.T) {
	for _, c := range []struct {
		ns   []list
		want list
	}{
		{nil, nil},
		{[]list{}, nil},

		// one alone
		{[]list{nil}, nil},
		{[]list{{0, 0}}, nil},
		{[]list{{1}}, list{1}},
		{[]list{{12}}, list{12}},
		{[]list{{5, 7, 9}}, list{5, 7, 9}},

		// all 0, and a 0 among many
		{[]list{nil, nil}, nil},
		{[]list{nil, {0}, {0, 0}}, nil},
		{[]list{nil, {12}}, list{12}},
		{[]list{{12}, nil}, list{12}},
		{[]list{nil, {12}, {18}}, list{6}},
		{[]list{{12}, nil, {18}}, list{6}},
		{[]list{{12}, {18}, nil}, list{6}},
		{[]list{nil, nil, {5, 7}, nil, {10, 14}, nil}, list{5, 7}},

		{[]list{{12}, {18}}, list{6}},
		{[]list{{12}, {18}, {4}}, list{2}},
		{[]list{{6}, {10}, {15}}, list{1}},
		{[]list{{1}, {0, 0, 1}, {most}}, list{1}},
		{[]list{{7}, {7}, {7}, {7}}, list{7}},
		{[]list{{60}, {60}, {84}, {90}, {96}}, list{6}},
		{[]list{{2}, {4}, {8}, {16}}, list{2}},
		{[]list{{16}, {8}, {4}, {2}}, list{2}},

		// of one word and of many
		{[]list{{0, 6}, {0, 0, 9}, {0, 15}}, list{0, 3}},
		{[]list{{0, 6}, {0, 0, 9}, {15}}, list{3}},
		{[]list{{10, 14}, {15, 21}, {35, 49}, {25, 35}}, list{5, 7}},
		{[]list{{10, 14}, {15, 21}, {35, 49}, {1}}, list{1}},
	} {
		if n := gcd.All(nats(c.ns)...); !has(n, c.want) {
			t.Errorf("All(%d) = %d; want %d", c.ns, n.Words(), c.want)
		}
	}
	if n := gcd.All(); !has(n, nil) {
		t.Errorf("All() = %d", n.Words())
	}
}

func TestP52LeastExamples(t *testing.T) {
	for _, c := range []struct {
		ns   []list
		want list
	}{
		{nil, list{1}},
		{[]list{}, list{1}},

		// one alone
		{[]list{nil}, nil},
		{[]list{{0, 0}}, nil},
		{[]list{{1}}, list{1}},
		{[]list{{12}}, list{12}},
		{[]list{{5, 7, 9}}, list{5, 7, 9}},

		// all 0, and a 0 among many
		{[]list{nil, nil}, nil},
		{[]list{nil, {0}, {0, 0}}, nil},
		{[]list{nil, {12}}, nil},
		{[]list{{12}, nil}, nil},
		{[]list{nil, {2}, {3}}, nil},
		{[]list{{2}, nil, {3}}, nil},
		{[]list{{2}, {3}, nil}, nil},
		{[]list{{5, 7, 9}, {0, 0, 0}, {0, 1}}, nil},

		{[]list{{4}, {6}}, list{12}},
		{[]list{{2}, {3}, {4}}, list{12}},
		{[]list{{6}, {10}, {15}}, list{30}},
		{[]list{{1}, {1}, {1}}, list{1}},
		{[]list{{7}, {7}, {7}, {7}}, list{7}},
		{[]list{{2}, {4}, {8}, {16}}, list{16}},
		{[]list{{16}, {8}, {4}, {2}}, list{16}},
		{[]list{{2}, {3}, {5}, {7}, {11}, {13}}, list{30030}},

		// of one word and of many
		{[]list{{2}, {0, 1}, {3}}, list{0, 3}},
		{[]list{{0, 15}, {0, 0, 9}, {4}}, list{0, 0, 45}},
		{[]list{{10, 14}, {15, 21}, {2}}, list{30, 42}},
		{[]list{{most}, {0, 1}, {most}}, list{0, most}},
		{[]list{{half}, {most}, {0, 1}}, list{0, most}},
	} {
		if n := gcd.Least(nats(c.ns)...); !has(n, c.want) {
			t.Errorf("Least(%d) = %d; want %d", c.ns, n.Words(), c.want)
		}
	}
	if n := gcd.Least(); !has(n, list{1}) {
		t.Errorf("Least() = %d", n.Words())
	}
}

// holdMany has All and Least answer as by going with math/big from one to the next.
func holdMany(t *testing.T, ns ...nat.Nat) {
	vs := values(ns)
	all, least := new(big.Int), big.NewInt(1)
	for _, v := range vs {
		all, least = common(all, v), multiple(least, v)
	}
	if n := gcd.All(ns...); !is(n, all) {
		t.Errorf("All(%x) = %x; want %x", vs, value(n), all)
	}
	if n := gcd.Least(ns...); !is(n, least) {
		t.Errorf("Least(%x) = %x; want %x", vs, value(n), least)
	}
	kept(t, ns, vs)
}

func TestP52AllAndLeastOfAll(t *testing.T) {
	ns := numbers(2, list{0, 1, 6, 35, half, most})
	for _, a := range ns {
		holdMany(t, a)
		for _, b := range ns {
			holdMany(t, a, b)
			for _, c := range ns {
				holdMany(t, a, b, c)
			}
		}
	}
}

func TestP52AllAndLeastOfMany(t *testing.T) {
	var ns []nat.Nat
	for k := range uint64(120) {
		ns = append(ns, nat.Of(7*(k+1)))
		holdMany(t, ns...)
	}
	for words := range 12 {
		ns = append(ns, times(long(words+1), nat.Of(14)))
		holdMany(t, ns...)
	}
	above := two(api.MaxShift + 5)
	holdMany(t, times(above, nat.Of(6)), times(above, nat.Of(9, 3)), times(above, long(4)), times(above, nat.Of(30)))
	holdMany(t, append(ns, nat.Of(1))...)
	holdMany(t, append(ns, nat.Of())...)
	holdMany(t, append([]nat.Nat{{}}, ns...)...)
}

// What is handed in stays the same, the list of them too; what comes out is
// good after what went in is gone.
func TestP52WhatIsHandedInStays(t *testing.T) {
	ns := nats([]list{{10, 14}, {0, 15, 21}, nil, {5}, {0, 0, 35, 49}})
	vs := values(ns)
	gcd.All(ns...)
	gcd.Least(ns...)
	kept(t, ns, vs)

	alone := []nat.Nat{nat.Of(5, 7)}
	all, least := gcd.All(alone...), gcd.Least(alone...)
	alone[0] = nat.Of(1)
	if !has(all, list{5, 7}) || !has(least, list{5, 7}) {
		t.Errorf("All and Least of one have become %d and %d", all.Words(), least.Words())
	}
}
