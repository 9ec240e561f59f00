package prod_test

import (
	"math"
	"math/big"
	"slices"
	"testing"

	"actuary/api"
	"actuary/nat"
	"actuary/prod"
)

const most = 1<<64 - 1

// list is some words, the lowest first, as nat.Nat has them.
type list = []uint64

// edges are the words at which carries turn, and some within.
var edges = list{0, 1, 2, 3, 0x0123456789abcdef, 1 << 63, most - 1, most}

// numbers are those of up to three words that are edges of words: 0 among
// them, and every way for noughts to stand below and between.
func numbers() []nat.Nat {
	few := list{0, 1, 0x0123456789abcdef, most}
	ns := []nat.Nat{nat.Of(), nat.Of(2), nat.Of(1 << 63)}
	for _, x := range few {
		for _, y := range few {
			for _, z := range few {
				ns = append(ns, nat.Of(x, y, z))
			}
		}
	}
	return ns
}

// long is a number of some words, all of them different.
func long(words int) nat.Nat {
	digits := make(list, words)
	for k := range digits {
		digits[k] = uint64(k+1) * 0x9e3779b97f4a7c15
	}
	return nat.Of(digits...)
}

// ones is 2 to the k, less 1: as great as its bits let it be.
func ones(k int) nat.Nat {
	n, _ := nat.Sub(two(k), nat.Of(1))
	return n
}

// two is 2 to the k, which may be above the limit of a shift.
func two(k int) nat.Nat {
	return nat.Of(append(make(list, k/64), 1<<(k%64))...)
}

// value is the number of a Nat, by its words.
func value(n nat.Nat) *big.Int {
	v := new(big.Int)
	for _, x := range slices.Backward(n.Words()) {
		v.Lsh(v, 64).Or(v, new(big.Int).SetUint64(x))
	}
	return v
}

func times(v, w *big.Int) *big.Int { return new(big.Int).Mul(v, w) }

// to is v to the k.
func to(v *big.Int, k int) *big.Int { return new(big.Int).Exp(v, big.NewInt(int64(k)), nil) }

// is tells whether n is v, and in good form: the last of its words is not 0.
func is(n nat.Nat, v *big.Int) bool {
	return value(n).Cmp(v) == 0 && n.Len() == (v.BitLen()+63)/64
}

// has tells whether n has just these words.
func has(n nat.Nat, words list) bool {
	return slices.Equal(n.Words(), words) && n.Len() == len(words) && n.Zero() == (len(words) == 0)
}

// nats are numbers, each by its words.
func nats(lists []list) []nat.Nat {
	ns := make([]nat.Nat, len(lists))
	for k, words := range lists {
		ns[k] = nat.Of(words...)
	}
	return ns
}

func TestP31ByWordExamples(t *testing.T) {
	for _, c := range []struct {
		n      list
		x, add uint64
		words  list
	}{
		{list{0, 1}, 3, 5, list{5, 3}},
		{nil, 0, 0, nil},
		{nil, 7, 0, nil},
		{nil, 7, 5, list{5}},
		{nil, most, most, list{most}},
		{list{4}, 0, 0, nil},
		{list{4, 5}, 0, 0, nil},
		{list{4, 5}, 0, 9, list{9}},
		{list{4, 5}, 1, 0, list{4, 5}},
		{list{4}, 6, 1, list{25}},
		{list{most}, 1, 1, list{0, 1}},
		{list{most, most}, 1, 1, list{0, 0, 1}},
		{list{most}, most, 0, list{1, most - 1}},
		{list{most}, most, most, list{0, most}},
		{list{most, most, most}, most, most, list{0, 0, 0, most}},
		{list{0, 0, 1 << 63}, 2, 1, list{1, 0, 0, 1}},
	} {
		if p := prod.ByWord(nat.Of(c.n...), c.x, c.add); !has(p, c.words) {
			t.Errorf("ByWord(%d, %d, %d) = %d; want %d", c.n, c.x, c.add, p.Words(), c.words)
		}
	}
}

func TestP31MulExamples(t *testing.T) {
	for _, c := range []struct{ a, b, words list }{
		{list{most}, list{most}, list{1, most - 1}},
		{nil, nil, nil},
		{nil, list{7}, nil},
		{nil, list{most, most, most}, nil},
		{list{1}, list{1}, list{1}},
		{list{1}, list{5, 7}, list{5, 7}},
		{list{6}, list{7}, list{42}},
		{list{1 << 32}, list{1 << 32}, list{0, 1}},
		{list{1 << 63}, list{2}, list{0, 1}},
		{list{0, 1}, list{0, 1}, list{0, 0, 1}},
		{list{0, 0, 3}, list{0, 5}, list{0, 0, 0, 15}},
		{list{2, 3}, list{5, 7}, list{10, 29, 21}},
		{list{2, 3, 4}, list{5}, list{10, 15, 20}},
		{list{most, most}, list{most}, list{1, most, most - 1}},
		{list{most, most}, list{most, most}, list{1, 0, most - 1, most}},
	} {
		a, b := nat.Of(c.a...), nat.Of(c.b...)
		if p := prod.Mul(a, b); !has(p, c.words) {
			t.Errorf("Mul(%d, %d) = %d; want %d", c.a, c.b, p.Words(), c.words)
		}
		if p := prod.Mul(b, a); !has(p, c.words) {
			t.Errorf("Mul(%d, %d) = %d; want %d", c.b, c.a, p.Words(), c.words)
		}
	}
}

func TestP31SquareExamples(t *testing.T) {
	for _, c := range []struct{ n, words list }{
		{nil, nil},
		{list{0, 0}, nil},
		{list{1}, list{1}},
		{list{12}, list{144}},
		{list{1 << 32}, list{0, 1}},
		{list{most}, list{1, most - 1}},
		{list{0, 1}, list{0, 0, 1}},
		{list{3, 5}, list{9, 30, 25}},
		{list{most, most}, list{1, 0, most - 1, most}},
	} {
		if p := prod.Square(nat.Of(c.n...)); !has(p, c.words) {
			t.Errorf("Square of %d = %d; want %d", c.n, p.Words(), c.words)
		}
	}
}

func TestP31ProductsOfAll(t *testing.T) {
	ns := numbers()
	for _, a := range ns {
		v := value(a)
		if p := prod.Square(a); !is(p, times(v, v)) {
			t.Errorf("Square of %v = %d", v, p.Words())
		}
		for _, b := range ns {
			if p := prod.Mul(a, b); !is(p, times(v, value(b))) {
				t.Errorf("Mul(%v, %v) = %d", v, value(b), p.Words())
			}
		}
		for _, x := range edges {
			for _, add := range edges {
				want := times(v, new(big.Int).SetUint64(x))
				want.Add(want, new(big.Int).SetUint64(add))
				if p := prod.ByWord(a, x, add); !is(p, want) {
					t.Errorf("ByWord(%v, %d, %d) = %d", v, x, add, p.Words())
				}
			}
		}
		if !is(a, v) {
			t.Fatalf("%v has become %v", v, value(a))
		}
	}
}

func TestP31ProductsOfLongNumbers(t *testing.T) {
	var ns []nat.Nat
	for _, words := range []int{1, 2, 7, 31, 32, 33, 64, 100, 300} {
		ns = append(ns, long(words), ones(64*words), ones(64*words-1), two(64*words))
	}
	for _, a := range ns {
		v := value(a)
		if p := prod.Square(a); !is(p, times(v, v)) {
			t.Errorf("Square of %d bits has %d bits", a.Bits(), p.Bits())
		}
		if p := prod.ByWord(a, most, most); !is(p, new(big.Int).Add(times(v, value(nat.Of(most))), value(nat.Of(most)))) {
			t.Errorf("ByWord of %d bits has %d bits", a.Bits(), p.Bits())
		}
		for _, b := range ns {
			if p := prod.Mul(a, b); !is(p, times(v, value(b))) {
				t.Errorf("Mul of %d and %d bits has %d bits", a.Bits(), b.Bits(), p.Bits())
			}
		}
	}
}

func TestP31ProductsHaveNoLimit(t *testing.T) {
	a := long(1500) // 96000 bits: more than a power or a shift may have
	v := value(a)
	if p := prod.Square(a); !is(p, times(v, v)) {
		t.Errorf("Square of %d bits has %d bits", a.Bits(), p.Bits())
	}
	if p := prod.Mul(a, nat.Of(10)); !is(p, times(v, big.NewInt(10))) {
		t.Errorf("Mul of %d bits has %d bits", a.Bits(), p.Bits())
	}
	if p := prod.ByWord(a, 10, 0); !is(p, times(v, big.NewInt(10))) {
		t.Errorf("ByWord of %d bits has %d bits", a.Bits(), p.Bits())
	}
}

func TestP32PowExamples(t *testing.T) {
	for _, c := range []struct {
		n     list
		k     int
		words list
	}{
		{list{3}, 5, list{243}},
		{list{2}, 0, list{1}},
		{list{2}, 1, list{2}},
		{list{2}, 10, list{1024}},
		{list{2}, 64, list{0, 1}},
		{list{2}, 127, list{0, 1 << 63}},
		{list{10}, 19, list{10000000000000000000}},
		{list{most}, 2, list{1, most - 1}},
		{list{5, 7}, 0, list{1}},
		{list{5, 7}, 1, list{5, 7}},
		{list{3, 5}, 2, list{9, 30, 25}},
		{list{0, 1}, 3, list{0, 0, 0, 1}},
	} {
		if p, ok := prod.Pow(nat.Of(c.n...), c.k); !ok || !has(p, c.words) {
			t.Errorf("Pow(%d, %d) = %d, %t; want %d", c.n, c.k, p.Words(), ok, c.words)
		}
	}
}

func TestP32PowersOfNoughtAndOne(t *testing.T) {
	for _, zero := range []nat.Nat{{}, nat.Of(), nat.Of(0, 0)} {
		if p, ok := prod.Pow(zero, 0); !ok || !has(p, list{1}) {
			t.Errorf("0 to the 0 = %d, %t", p.Words(), ok)
		}
	}
	if p, ok := prod.Pow(nat.Of(1), 0); !ok || !has(p, list{1}) {
		t.Errorf("1 to the 0 = %d, %t", p.Words(), ok)
	}
	for _, k := range []int{1, 2, 3, 64, 32768, 32769, 65535, 65536, 65537, 1 << 32, math.MaxInt - 1, math.MaxInt} {
		if p, ok := prod.Pow(nat.Of(), k); !ok || !has(p, nil) {
			t.Errorf("0 to the %d = %d, %t", k, p.Words(), ok)
		}
		if p, ok := prod.Pow(nat.Of(1), k); !ok || !has(p, list{1}) {
			t.Errorf("1 to the %d = %d, %t", k, p.Words(), ok)
		}
	}
}

func TestP32PowAtItsLimit(t *testing.T) {
	if api.MaxBits != 65536 {
		t.Fatalf("MaxBits is %d", api.MaxBits)
	}
	for _, c := range []struct {
		n nat.Nat
		k int
	}{
		{nat.Of(2), 32768},
		{nat.Of(3), 32768},
		{nat.Of(4), 21845}, // 3 bits: 65535 in all
		{nat.Of(7), 21845},
		{nat.Of(255), 8192},
		{nat.Of(most), 1024},
		{nat.Of(1 << 63), 1024},
		{nat.Of(0, 1), 1008}, // 65 bits: 65520 in all
		{ones(32768), 2},
		{two(32767), 2},
		{ones(65536), 1},
		{two(65535), 1},
	} {
		if p, ok := prod.Pow(c.n, c.k); !ok || !is(p, to(value(c.n), c.k)) {
			t.Errorf("Pow of %d bits to the %d has %d bits, %t", c.n.Bits(), c.k, p.Bits(), ok)
		}
	}
}

func TestP32PowAboveItsLimit(t *testing.T) {
	for _, c := range []struct {
		n nat.Nat
		k int
	}{
		{nat.Of(2), 32769}, // the power would have 32770 bits alone: it isn't these that count
		{nat.Of(3), 32769},
		{nat.Of(4), 21846},
		{nat.Of(7), 21846},
		{nat.Of(255), 8193},
		{nat.Of(most), 1025},
		{nat.Of(0, 1), 1009},
		{ones(32769), 2},
		{two(32768), 2},
		{ones(65537), 1},
		{two(65536), 1},
		{long(1500), 1},
		{long(1500), 2},
		{nat.Of(2), 1 << 62}, // 2 bits: 2 to the 63 in all
		{nat.Of(8), 1 << 62}, // 4 bits: 2 to the 64 in all, which is 0 in an int
		{nat.Of(2), math.MaxInt},
		{nat.Of(most), math.MaxInt},
		{nat.Of(most, most), 1 << 57},
	} {
		if p, ok := prod.Pow(c.n, c.k); ok || !has(p, nil) {
			t.Errorf("Pow of %d bits to the %d has %d bits, %t; want false", c.n.Bits(), c.k, p.Bits(), ok)
		}
	}
}

func TestP32PowToNoughtHasNoLimit(t *testing.T) {
	for _, n := range []nat.Nat{ones(65536), two(65536), long(1500)} {
		if p, ok := prod.Pow(n, 0); !ok || !has(p, list{1}) {
			t.Errorf("Pow of %d bits to the 0 = %d, %t", n.Bits(), p.Words(), ok)
		}
	}
}

func TestP32PowOfNegative(t *testing.T) {
	for _, n := range []nat.Nat{nat.Of(), nat.Of(1), nat.Of(2), nat.Of(most), long(5), long(1500)} {
		for _, k := range []int{-1, -2, -5, -64, -32768, -65536, math.MinInt + 1, math.MinInt} {
			if p, ok := prod.Pow(n, k); ok || !has(p, nil) {
				t.Errorf("Pow of %d bits to the %d = %d, %t; want false", n.Bits(), k, p.Words(), ok)
			}
		}
	}
}

func TestP32PowersOfAll(t *testing.T) {
	for _, n := range numbers() {
		v := value(n)
		for k := range 20 {
			if p, ok := prod.Pow(n, k); !ok || !is(p, to(v, k)) {
				t.Errorf("%v to the %d = %d, %t", v, k, p.Words(), ok)
			}
		}
		if !is(n, v) {
			t.Fatalf("%v has become %v", v, value(n))
		}
	}
	for k := range 400 {
		if p, ok := prod.Pow(nat.Of(7), k); !ok || !is(p, to(big.NewInt(7), k)) {
			t.Errorf("7 to the %d = %d, %t", k, p.Words(), ok)
		}
	}
}

func TestP33OfAndSumExamples(t *testing.T) {
	for _, c := range []struct {
		ns           []list
		product, sum list
	}{
		{nil, list{1}, nil},
		{[]list{{}}, nil, nil},
		{[]list{{0, 0}, {}}, nil, nil},
		{[]list{{1}}, list{1}, list{1}},
		{[]list{{5}}, list{5}, list{5}},
		{[]list{{5, 7}}, list{5, 7}, list{5, 7}},
		{[]list{{2}, {5}}, list{10}, list{7}},
		{[]list{{1}, {2}, {3}}, list{6}, list{6}},
		{[]list{{1}, {1}, {1}, {1}}, list{1}, list{4}},
		{[]list{{2}, {3}, {5}, {7}, {11}}, list{2310}, list{28}},
		{[]list{{4}, {}, {5}}, nil, list{9}},
		{[]list{{}, {4}, {5}}, nil, list{9}},
		{[]list{{4}, {5}, {}}, nil, list{9}},
		{[]list{{7}, {7}, {7}}, list{343}, list{21}},
		{[]list{{most}, {most}}, list{1, most - 1}, list{most - 1, 1}},
		{[]list{{1}, {most, most}}, list{most, most}, list{0, 0, 1}},
		{[]list{{most, most}, {1}}, list{most, most}, list{0, 0, 1}},
		{[]list{{0, 1}, {3}, {0, 0, 1}}, list{0, 0, 0, 3}, list{3, 1, 1}},
	} {
		ns := nats(c.ns)
		if p := prod.Of(ns...); !has(p, c.product) {
			t.Errorf("Of(%d...) = %d; want %d", c.ns, p.Words(), c.product)
		}
		if s := prod.Sum(ns...); !has(s, c.sum) {
			t.Errorf("Sum(%d...) = %d; want %d", c.ns, s.Words(), c.sum)
		}
	}
}

func TestP33OfAndSumOfNone(t *testing.T) {
	for _, ns := range [][]nat.Nat{nil, {}} {
		if p := prod.Of(ns...); !has(p, list{1}) {
			t.Errorf("Of() = %d", p.Words())
		}
		if s := prod.Sum(ns...); !has(s, nil) {
			t.Errorf("Sum() = %d", s.Words())
		}
	}
}

func TestP33OfAndSumOfMany(t *testing.T) {
	var ns []nat.Nat
	product, sum := big.NewInt(1), new(big.Int)
	for k := range 200 {
		n := nat.Of(uint64(k+1)*0x9e3779b97f4a7c15, uint64(k%3))
		ns = append(ns, n)
		product.Mul(product, value(n))
		sum.Add(sum, value(n))
		if p := prod.Of(ns...); !is(p, product) {
			t.Errorf("Of %d numbers has %d bits; want %d", k+1, p.Bits(), product.BitLen())
		}
		if s := prod.Sum(ns...); !is(s, sum) {
			t.Errorf("Sum of %d numbers = %d; want %v", k+1, s.Words(), sum)
		}
	}
}

func TestP33OfAndSumHaveNoLimit(t *testing.T) {
	a, b := long(700), long(800)
	if p := prod.Of(a, b, a); !is(p, times(times(value(a), value(b)), value(a))) {
		t.Errorf("Of %d, %d and %d bits has %d bits", a.Bits(), b.Bits(), a.Bits(), p.Bits())
	}
	n := two(65536)
	if s := prod.Sum(n, n, n); !is(s, times(value(n), big.NewInt(3))) {
		t.Errorf("Sum of three numbers of %d bits has %d bits", n.Bits(), s.Bits())
	}
}

func TestP33OfAndSumLeaveTheirArguments(t *testing.T) {
	first, second, third := long(3), nat.Of(), long(2)
	ns := []nat.Nat{first, second, third}
	prod.Of(ns...)
	prod.Sum(ns...)
	for k, n := range []nat.Nat{first, second, third} {
		if nat.Cmp(ns[k], n) != 0 {
			t.Errorf("number %d has become %d", k, ns[k].Words())
		}
	}
	if !has(first, long(3).Words()) || !has(third, long(2).Words()) {
		t.Errorf("the numbers have become %d and %d", first.Words(), third.Words())
	}
}
