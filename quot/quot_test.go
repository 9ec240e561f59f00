package quot_test

import (
	"math/big"
	"slices"
	"testing"

	"actuary/nat"
	"actuary/quot"
)

const (
	half = 1 << 63
	most = 1<<64 - 1
)

// list is some words, the lowest first, as nat.Nat has them.
type list = []uint64

// edges are the words at which guesses, carries and borrows turn, and some within.
var edges = list{0, 1, 2, 0x0123456789abcdef, half - 1, half, half + 1, most - 1, most}

// numbers are those of up to so many words that are among some few: 0 too, and
// every way for noughts to stand below and between.
func numbers(words int, few list) []nat.Nat {
	lists := []list{nil}
	ns := []nat.Nat{nat.Of()}
	for range words {
		var longer []list
		for _, low := range lists {
			for _, x := range few {
				digits := append(slices.Clone(low), x)
				longer = append(longer, digits)
				if x != 0 {
					ns = append(ns, nat.Of(digits...))
				}
			}
		}
		lists = longer
	}
	return ns
}

// long is a number of some words, all of them different.
func long(words int) nat.Nat {
	digits := make(list, words)
	for k := range digits {
		digits[k] = uint64(k+1) * 0x9e3779b97f4a7c15
	}
	return nat.Of(digits...)
}

// two is 2 to the k, which may be above the limit of a shift.
func two(k int) nat.Nat {
	return nat.Of(append(make(list, k/64), 1<<(k%64))...)
}

// less is n - 1.
func less(n nat.Nat) nat.Nat {
	d, _ := nat.Sub(n, nat.Of(1))
	return d
}

// value is the number of a Nat, by its words.
func value(n nat.Nat) *big.Int {
	v := new(big.Int)
	for _, x := range slices.Backward(n.Words()) {
		v.Lsh(v, 64).Or(v, new(big.Int).SetUint64(x))
	}
	return v
}

// natural is the Nat of a number.
func natural(v *big.Int) nat.Nat {
	var words list
	w := new(big.Int).Set(v)
	for w.Sign() > 0 {
		words = append(words, new(big.Int).And(w, new(big.Int).SetUint64(most)).Uint64())
		w.Rsh(w, 64)
	}
	return nat.Of(words...)
}

// times is a * b.
func times(a, b nat.Nat) nat.Nat {
	return natural(new(big.Int).Mul(value(a), value(b)))
}

// is tells whether n is v, and in good form: the last of its words is not 0.
func is(n nat.Nat, v *big.Int) bool {
	return value(n).Cmp(v) == 0 && n.Len() == (v.BitLen()+63)/64
}

// has tells whether n has just these words.
func has(n nat.Nat, words list) bool {
	return slices.Equal(n.Words(), words) && n.Len() == len(words) && n.Zero() == (len(words) == 0)
}

// hold has DivMod answer n by d, a d that is not 0, as math/big does.
func hold(t *testing.T, n, d nat.Nat) {
	v, w := value(n), value(d)
	wantQ, wantR := new(big.Int).QuoRem(v, w, new(big.Int))
	q, r, ok := quot.DivMod(n, d)
	if !ok || !is(q, wantQ) || !is(r, wantR) {
		t.Errorf("DivMod(%x, %x) = %x, %x, %t; want %x, %x", v, w, value(q), value(r), ok, wantQ, wantR)
	}
	if !is(n, v) || !is(d, w) {
		t.Fatalf("%x and %x have become %x and %x", v, w, value(n), value(d))
	}
}

func TestP41ByWordExamples(t *testing.T) {
	for _, c := range []struct {
		n        list
		x        uint64
		quotient list
		rest     uint64
	}{
		{list{100}, 7, list{14}, 2},
		{nil, 1, nil, 0},
		{nil, 7, nil, 0},
		{list{0, 0}, most, nil, 0},
		{list{6}, 7, nil, 6},
		{list{7}, 7, list{1}, 0},
		{list{8}, 7, list{1}, 1},
		{list{most}, 1, list{most}, 0},
		{list{most}, most, list{1}, 0},
		{list{most - 1}, most, nil, most - 1},
		{list{5, 7, 9}, 1, list{5, 7, 9}, 0},
		{list{0, 1}, 2, list{half}, 0},
		{list{0, 1}, 3, list{6148914691236517205}, 1},
		{list{0, 1}, most, list{1}, 1},
		{list{0, 3}, 3, list{0, 1}, 0},
		{list{2, 3}, 3, list{0, 1}, 2},
		{list{0, 0, 1}, half, list{0, 2}, 0},
		{list{0, 0, 0, 1}, most, list{1, 1, 1}, 1},
		{list{most, most, most}, most, list{1, 1, 1}, 0},
		{list{most, most, most - 1}, most, list{most, most}, most - 1},
	} {
		q, r, ok := quot.ByWord(nat.Of(c.n...), c.x)
		if !ok || !has(q, c.quotient) || r != c.rest {
			t.Errorf("ByWord(%d, %d) = %d, %d, %t; want %d, %d", c.n, c.x, q.Words(), r, ok, c.quotient, c.rest)
		}
	}
}

func TestP41DivModExamples(t *testing.T) {
	for _, c := range []struct{ n, d, quotient, rest list }{
		{list{0, 0, 1}, list{1, 1}, list{most}, list{1}},
		{list{9}, list{4}, list{2}, list{1}},
		{list{100}, list{7}, list{14}, list{2}},

		// 0 divided
		{nil, list{1}, nil, nil},
		{nil, list{7, 0}, nil, nil},
		{nil, list{most}, nil, nil},
		{list{0, 0}, list{0, 1}, nil, nil},
		{nil, list{1, 2, 3}, nil, nil},

		// by 1, by itself, by what is above it
		{list{5, 7, 9}, list{1}, list{5, 7, 9}, nil},
		{list{5, 7, 9}, list{5, 7, 9}, list{1}, nil},
		{list{5}, list{0, 1}, nil, list{5}},
		{list{5, 7}, list{0, 0, 1}, nil, list{5, 7}},
		{list{5, 7, 9}, list{6, 7, 9}, nil, list{5, 7, 9}},
		{list{5, 7, 9}, list{0, 8, 9}, nil, list{5, 7, 9}},
		{list{most, most}, list{0, 0, 1}, nil, list{most, most}},
		{list{6}, list{7}, nil, list{6}},

		// by one word
		{list{0, 1}, list{2}, list{half}, nil},
		{list{2, 3}, list{3}, list{0, 1}, list{2}},
		{list{most, most, most}, list{most}, list{1, 1, 1}, nil},

		// by powers of B
		{list{5, 7}, list{0, 1}, list{7}, list{5}},
		{list{5, 7, 9}, list{0, 1}, list{7, 9}, list{5}},
		{list{5, 7, 9}, list{0, 0, 1}, list{9}, list{5, 7}},
		{list{5, 7, 9}, list{0, 0, 3}, list{3}, list{5, 7}},

		// just multiples, and 1 less
		{list{10, 29, 21}, list{5, 7}, list{2, 3}, nil},
		{list{9, 29, 21}, list{5, 7}, list{1, 3}, list{4, 7}},
		{list{1, 0, most - 1, most}, list{most, most}, list{most, most}, nil},
		{list{0, 0, most - 1, most}, list{most, most}, list{most - 1, most}, list{most - 1, most}},

		// highest words that are alike
		{list{1, 7}, list{0, 7}, list{1}, list{1}},
		{list{0, half}, list{1, half}, nil, list{0, half}},
		{list{2, half}, list{1, half}, list{1}, list{1}},
		{list{0, 0, half}, list{1, half}, list{most}, list{1, half - 1}},
		{list{most, most - 1, most}, list{most, most}, list{most}, list{most - 1, most}},
		{list{0, most - 1, half}, list{most, half}, list{most}, list{most, half - 1}},

		// a divisor's lowest word that its two highest don't tell of
		{list{3, 0, half}, list{1, 0, 1 << 61}, list{3}, list{0, 0, 1 << 61}},
		{list{0, 0, half, half - 1}, list{1, 0, half}, list{most - 1}, list{2, most, half - 1}},
	} {
		n, d := nat.Of(c.n...), nat.Of(c.d...)
		q, r, ok := quot.DivMod(n, d)
		if !ok || !has(q, c.quotient) || !has(r, c.rest) {
			t.Errorf("DivMod(%d, %d) = %d, %d, %t; want %d, %d",
				c.n, c.d, q.Words(), r.Words(), ok, c.quotient, c.rest)
		}
		if q, ok := quot.Div(n, d); !ok || !has(q, c.quotient) {
			t.Errorf("Div(%d, %d) = %d, %t; want %d", c.n, c.d, q.Words(), ok, c.quotient)
		}
		if r, ok := quot.Mod(n, d); !ok || !has(r, c.rest) {
			t.Errorf("Mod(%d, %d) = %d, %t; want %d", c.n, c.d, r.Words(), ok, c.rest)
		}
	}
}

func TestP41ByNought(t *testing.T) {
	for _, n := range []nat.Nat{{}, nat.Of(), nat.Of(0, 0), nat.Of(1), nat.Of(5), nat.Of(most), nat.Of(5, 7, 9), long(1500)} {
		if q, r, ok := quot.ByWord(n, 0); ok || !has(q, nil) || r != 0 {
			t.Errorf("ByWord of %d bits by 0 = %d, %d, %t; want false", n.Bits(), q.Words(), r, ok)
		}
		for _, zero := range []nat.Nat{{}, nat.Of(), nat.Of(0, 0, 0)} {
			if q, r, ok := quot.DivMod(n, zero); ok || !has(q, nil) || !has(r, nil) {
				t.Errorf("DivMod of %d bits by 0 = %d, %d, %t; want false", n.Bits(), q.Words(), r.Words(), ok)
			}
			if q, ok := quot.Div(n, zero); ok || !has(q, nil) {
				t.Errorf("Div of %d bits by 0 = %d, %t; want false", n.Bits(), q.Words(), ok)
			}
			if r, ok := quot.Mod(n, zero); ok || !has(r, nil) {
				t.Errorf("Mod of %d bits by 0 = %d, %t; want false", n.Bits(), r.Words(), ok)
			}
		}
	}
}

func TestP41ByWordOfAll(t *testing.T) {
	for _, n := range numbers(3, edges) {
		v := value(n)
		for _, x := range edges[1:] {
			wantQ, wantR := new(big.Int).QuoRem(v, new(big.Int).SetUint64(x), new(big.Int))
			q, r, ok := quot.ByWord(n, x)
			if !ok || !is(q, wantQ) || r != wantR.Uint64() {
				t.Errorf("ByWord(%x, %x) = %x, %x, %t; want %x, %x", v, x, value(q), r, ok, wantQ, wantR)
			}
			hold(t, n, nat.Of(x))
		}
		if !is(n, v) {
			t.Fatalf("%x has become %x", v, value(n))
		}
	}
}

func TestP41DivModOfAll(t *testing.T) {
	few := list{0, 1, half - 1, half, most - 1, most}
	divisors := numbers(3, few)[1:]
	for _, n := range numbers(4, few) {
		for _, d := range divisors {
			hold(t, n, d)
		}
	}
}

// By the product of a quotient and a divisor, and what lies right beside it,
// each word of the quotient is guessed as close as can be.
func TestP41DivModOfMultiplesOfAll(t *testing.T) {
	divisors := numbers(3, list{0, 1, half, most})[1:]
	for _, q := range numbers(3, list{0, 1, 0x0123456789abcdef, half, most})[1:] {
		for _, d := range divisors {
			n := times(q, d)
			hold(t, n, d)
			hold(t, less(n), d)
			hold(t, nat.Add(n, less(d)), d)
			got, rest, ok := quot.DivMod(n, d)
			if !ok || nat.Cmp(got, q) != 0 || !has(rest, nil) {
				t.Errorf("DivMod of %x times %x = %x, %x, %t", value(q), value(d), value(got), value(rest), ok)
			}
		}
	}
}

// At each place of a divisor's highest bit, the one shift from end to end.
func TestP41DivModAtEachHighestBit(t *testing.T) {
	n := nat.Add(times(long(5), two(320)), long(4))
	for k := range 320 {
		for _, d := range []nat.Nat{two(k), less(two(k + 1)), nat.Add(two(k), nat.Of(1))} {
			hold(t, n, d)
			hold(t, two(640), d)
			hold(t, less(two(640)), d)
		}
	}
}

func TestP41DivModOfLongNumbers(t *testing.T) {
	var ns []nat.Nat
	for _, words := range []int{1, 2, 3, 7, 31, 32, 33, 64, 100, 300} {
		ns = append(ns, long(words), two(64*words), less(two(64*words)), less(two(64*words-1)))
	}
	for _, n := range ns {
		for _, d := range ns {
			hold(t, n, d)
			hold(t, times(n, d), d)
			hold(t, less(times(n, d)), d)
		}
	}
}

func TestP41DivModHasNoLimit(t *testing.T) {
	n := long(1500) // 96000 bits: more than a power or a shift may have
	for _, d := range []nat.Nat{nat.Of(1), nat.Of(10), nat.Of(most, most), long(700), less(n), n, nat.Add(n, nat.Of(1)), two(65537), long(1600)} {
		hold(t, n, d)
	}
	wantQ, wantR := new(big.Int).QuoRem(value(n), big.NewInt(10), new(big.Int))
	if q, r, ok := quot.ByWord(n, 10); !ok || !is(q, wantQ) || r != wantR.Uint64() {
		t.Errorf("ByWord of %d bits has %d bits, %d, %t", n.Bits(), q.Bits(), r, ok)
	}
}

func TestP41DivAndModAreThoseOfDivMod(t *testing.T) {
	ns := numbers(3, list{0, 1, half, most})
	for _, n := range ns {
		for _, d := range ns {
			q, r, ok := quot.DivMod(n, d)
			if ok != !d.Zero() {
				t.Errorf("DivMod(%x, %x) tells %t", value(n), value(d), ok)
			}
			if div, divOk := quot.Div(n, d); divOk != ok || !has(div, q.Words()) {
				t.Errorf("Div(%x, %x) = %x, %t; want %x, %t", value(n), value(d), value(div), divOk, value(q), ok)
			}
			if mod, modOk := quot.Mod(n, d); modOk != ok || !has(mod, r.Words()) {
				t.Errorf("Mod(%x, %x) = %x, %t; want %x, %t", value(n), value(d), value(mod), modOk, value(r), ok)
			}
		}
	}
}

func TestP42DividesExamples(t *testing.T) {
	for _, c := range []struct {
		d, n list
		want bool
	}{
		// 0 goes into 0 alone
		{nil, nil, true},
		{list{0, 0}, list{0}, true},
		{nil, list{1}, false},
		{nil, list{most}, false},
		{nil, list{5, 7}, false},
		{list{0, 0, 0}, list{0, 0, 1}, false},

		// everything goes into 0
		{list{1}, nil, true},
		{list{3}, nil, true},
		{list{most}, list{0, 0}, true},
		{list{5, 7}, nil, true},

		{list{1}, list{1}, true},
		{list{1}, list{5, 7, 9}, true},
		{list{3}, list{9}, true},
		{list{3}, list{8}, false},
		{list{3}, list{10}, false},
		{list{9}, list{3}, false},
		{list{7}, list{7}, true},
		{list{2}, list{0, 1}, true},
		{list{3}, list{0, 1}, false},
		{list{3}, list{most}, true},
		{list{3}, list{most, most, most}, true},
		{list{0, 1}, list{5}, false},
		{list{0, 1}, list{0, 7}, true},
		{list{0, 1}, list{1, 7}, false},
		{list{5, 7}, list{5, 7}, true},
		{list{5, 7}, list{6, 7}, false},
		{list{5, 7}, list{10, 29, 21}, true},
		{list{5, 7}, list{9, 29, 21}, false},
		{list{5, 7}, list{11, 29, 21}, false},
		{list{5, 7}, list{5}, false},
		{list{5, 7, 9}, list{5, 7}, false},
	} {
		if got := quot.Divides(nat.Of(c.d...), nat.Of(c.n...)); got != c.want {
			t.Errorf("Divides(%d, %d) = %t; want %t", c.d, c.n, got, c.want)
		}
	}
}

func TestP42DividesOfAll(t *testing.T) {
	ns := numbers(3, list{0, 1, 3, half, most})
	for _, d := range ns {
		for _, n := range ns {
			v, w := value(n), value(d)
			want := v.Sign() == 0
			if w.Sign() != 0 {
				want = new(big.Int).Mod(v, w).Sign() == 0
			}
			if got := quot.Divides(d, n); got != want {
				t.Errorf("Divides(%x, %x) = %t; want %t", w, v, got, want)
			}
			if !is(n, v) || !is(d, w) {
				t.Fatalf("%x and %x have become %x and %x", v, w, value(n), value(d))
			}
		}
	}
}

func TestP42DividesMultiplesAndNotBesideThem(t *testing.T) {
	ns := []nat.Nat{nat.Of(1), nat.Of(2), nat.Of(7), nat.Of(most), nat.Of(0, 1), nat.Of(5, 7), long(3), long(40), two(700), long(1100)}
	for _, d := range ns {
		one := nat.Cmp(d, nat.Of(1)) == 0
		for _, k := range ns {
			n := times(k, d)
			if !quot.Divides(d, n) {
				t.Errorf("Divides of %d bits into a multiple of %d bits is false", d.Bits(), n.Bits())
			}
			for _, beside := range []nat.Nat{less(n), nat.Add(n, nat.Of(1))} {
				if quot.Divides(d, beside) != one {
					t.Errorf("Divides of %d bits, beside a multiple of %d bits, is %t", d.Bits(), n.Bits(), !one)
				}
			}
		}
	}
}
