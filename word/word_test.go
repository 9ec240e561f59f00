package word_test

import (
	"math/big"
	"testing"

	"actuary/word"
)

const most = 1<<64 - 1

// edges are the words at which halves, signs and carries turn, and some within.
var edges = []uint64{
	0, 1, 2, 3, 10,
	1<<32 - 1, 1 << 32, 1<<32 + 1,
	0x0123456789abcdef, 6148914691236517205,
	1<<63 - 1, 1 << 63, 1<<63 + 1,
	0xfedcba9876543210, most - 1, most,
}

func number(x uint64) *big.Int { return new(big.Int).SetUint64(x) }

// joined is hi * B + lo.
func joined(hi, lo uint64) *big.Int {
	n := number(hi)
	return n.Add(n.Lsh(n, 64), number(lo))
}

func sum(terms ...*big.Int) *big.Int {
	n := new(big.Int)
	for _, x := range terms {
		n.Add(n, x)
	}
	return n
}

func product(x, y uint64) *big.Int { return new(big.Int).Mul(number(x), number(y)) }

func TestP11AddExamples(t *testing.T) {
	for _, c := range []struct{ x, y, carry, sum, over uint64 }{
		{0, 0, 0, 0, 0},
		{2, 3, 0, 5, 0},
		{2, 3, 1, 6, 0},
		{most, 0, 0, most, 0},
		{most, 0, 1, 0, 1},
		{0, most, 1, 0, 1},
		{most, 1, 0, 0, 1},
		{1 << 63, 1 << 63, 0, 0, 1},
		{most, most, 0, most - 1, 1},
		{most, most, 1, most, 1},
		{2, 3, 2, 5, 0},
		{2, 3, 3, 6, 0},
		{most, 0, 1 << 63, most, 0},
		{most, 0, most, 0, 1},
	} {
		if s, over := word.Add(c.x, c.y, c.carry); s != c.sum || over != c.over {
			t.Errorf("Add(%d, %d, %d) = %d, %d; want %d, %d", c.x, c.y, c.carry, s, over, c.sum, c.over)
		}
	}
}

func TestP11SubExamples(t *testing.T) {
	for _, c := range []struct{ x, y, borrow, difference, lack uint64 }{
		{0, 0, 0, 0, 0},
		{5, 3, 0, 2, 0},
		{5, 3, 1, 1, 0},
		{5, 5, 0, 0, 0},
		{5, 5, 1, most, 1},
		{3, 5, 0, most - 1, 1},
		{0, 0, 1, most, 1},
		{0, 0, 3, most, 1},
		{0, 0, 2, 0, 0},
		{0, most, 0, 1, 1},
		{0, most, 1, 0, 1},
		{most, most, 1, most, 1},
		{most, most, 1 << 63, 0, 0},
		{most, 0, most, most - 1, 0},
	} {
		if d, lack := word.Sub(c.x, c.y, c.borrow); d != c.difference || lack != c.lack {
			t.Errorf("Sub(%d, %d, %d) = %d, %d; want %d, %d", c.x, c.y, c.borrow, d, lack, c.difference, c.lack)
		}
	}
}

// Of a carry and a borrow the lowest bit counts alone, so every edge serves as one.
func TestP11AddAndSubKeepTheNumber(t *testing.T) {
	for _, x := range edges {
		for _, y := range edges {
			for _, c := range edges {
				s, over := word.Add(x, y, c)
				if over > 1 || joined(over, s).Cmp(sum(number(x), number(y), number(c%2))) != 0 {
					t.Errorf("Add(%d, %d, %d) = %d, %d", x, y, c, s, over)
				}
				d, lack := word.Sub(x, y, c)
				if lack > 1 || sum(number(d), number(y), number(c%2)).Cmp(joined(lack, x)) != 0 {
					t.Errorf("Sub(%d, %d, %d) = %d, %d", x, y, c, d, lack)
				}
			}
		}
	}
}

func TestP12MulExamples(t *testing.T) {
	for _, c := range []struct{ x, y, high, low uint64 }{
		{0, 0, 0, 0},
		{0, most, 0, 0},
		{1, most, 0, most},
		{6, 7, 0, 42},
		{1 << 32, 1 << 32, 1, 0},
		{1<<32 - 1, 1<<32 + 1, 0, most},
		{2, 1 << 63, 1, 0},
		{most, 2, 1, most - 1},
		{most, most, most - 1, 1},
	} {
		if high, low := word.Mul(c.x, c.y); high != c.high || low != c.low {
			t.Errorf("Mul(%d, %d) = %d, %d; want %d, %d", c.x, c.y, high, low, c.high, c.low)
		}
	}
}

func TestP12MulAddExamples(t *testing.T) {
	for _, c := range []struct{ x, y, a, b, high, low uint64 }{
		{0, 0, 0, 0, 0, 0},
		{6, 7, 3, 5, 0, 50},
		{0, 0, most, 0, 0, most},
		{0, 0, most, 1, 1, 0},
		{0, 0, 1, most, 1, 0},
		{0, 0, most, most, 1, most - 1},
		{1, most, 1, 0, 1, 0},
		{1, most, 0, 1, 1, 0},
		{1, most, most, most, 2, most - 2},
		{most, most, 0, 0, most - 1, 1},
		{most, most, most, 0, most, 0},
		{most, most, 0, most, most, 0},
		{most, most, most, most, most, most},
	} {
		if high, low := word.MulAdd(c.x, c.y, c.a, c.b); high != c.high || low != c.low {
			t.Errorf("MulAdd(%d, %d, %d, %d) = %d, %d; want %d, %d", c.x, c.y, c.a, c.b, high, low, c.high, c.low)
		}
	}
}

func TestP12MulAndMulAddKeepTheNumber(t *testing.T) {
	for _, x := range edges {
		for _, y := range edges {
			if high, low := word.Mul(x, y); joined(high, low).Cmp(product(x, y)) != 0 {
				t.Errorf("Mul(%d, %d) = %d, %d", x, y, high, low)
			}
			for _, a := range edges {
				for _, b := range edges {
					high, low := word.MulAdd(x, y, a, b)
					if joined(high, low).Cmp(sum(product(x, y), number(a), number(b))) != 0 {
						t.Errorf("MulAdd(%d, %d, %d, %d) = %d, %d", x, y, a, b, high, low)
					}
				}
			}
		}
	}
}

func TestP13DivExamples(t *testing.T) {
	for _, c := range []struct {
		hi, lo, y, quotient, rest uint64
		ok                        bool
	}{
		{0, 0, 1, 0, 0, true},
		{0, 100, 7, 14, 2, true},
		{0, 6, 7, 0, 6, true},
		{0, most, 1, most, 0, true},
		{1, 0, 3, 6148914691236517205, 1, true},
		{1, 0, 2, 1 << 63, 0, true},
		{2, 0, 3, 12297829382473034410, 2, true},
		{2, most, 3, most, 2, true},
		{most - 1, 1, most, most, 0, true},
		{most - 1, most, most, most, most - 1, true},
		{most - 1, 0, most, most - 1, most - 1, true},

		{0, 0, 0, 0, 0, false},
		{0, 1, 0, 0, 0, false},
		{1, 0, 0, 0, 0, false},
		{most, most, 0, 0, 0, false},
		{1, 0, 1, 0, 0, false},
		{3, 0, 3, 0, 0, false},
		{3, most, 3, 0, 0, false},
		{most, 0, most, 0, 0, false},
		{4, 0, 3, 0, 0, false},
		{most, most, 1, 0, 0, false},
		{most, 0, most - 1, 0, 0, false},
	} {
		q, r, ok := word.Div(c.hi, c.lo, c.y)
		if q != c.quotient || r != c.rest || ok != c.ok {
			t.Errorf("Div(%d, %d, %d) = %d, %d, %t; want %d, %d, %t",
				c.hi, c.lo, c.y, q, r, ok, c.quotient, c.rest, c.ok)
		}
	}
}

func TestP13DivKeepsTheNumber(t *testing.T) {
	for _, hi := range edges {
		for _, lo := range edges {
			for _, y := range edges {
				q, r, ok := word.Div(hi, lo, y)
				if fits := y > hi; ok != fits {
					t.Errorf("Div(%d, %d, %d) tells %t", hi, lo, y, ok)
				}
				if !ok && (q != 0 || r != 0) {
					t.Errorf("Div(%d, %d, %d) = %d, %d beside false", hi, lo, y, q, r)
				}
				if ok && (r >= y || sum(product(q, y), number(r)).Cmp(joined(hi, lo)) != 0) {
					t.Errorf("Div(%d, %d, %d) = %d, %d", hi, lo, y, q, r)
				}
			}
		}
	}
}

func TestP14BitsExamples(t *testing.T) {
	for _, c := range []struct {
		x                uint64
		len, lead, trail int
	}{
		{0, 0, 64, 64},
		{1, 1, 63, 0},
		{2, 2, 62, 1},
		{3, 2, 62, 0},
		{40, 6, 58, 3},
		{1<<32 - 1, 32, 32, 0},
		{1 << 32, 33, 31, 32},
		{1<<63 - 1, 63, 1, 0},
		{1 << 63, 64, 0, 63},
		{most - 1, 64, 0, 1},
		{most, 64, 0, 0},
	} {
		if n := word.Len(c.x); n != c.len {
			t.Errorf("Len(%d) = %d; want %d", c.x, n, c.len)
		}
		if n := word.Lead(c.x); n != c.lead {
			t.Errorf("Lead(%d) = %d; want %d", c.x, n, c.lead)
		}
		if n := word.Trail(c.x); n != c.trail {
			t.Errorf("Trail(%d) = %d; want %d", c.x, n, c.trail)
		}
	}
}

func TestP14BitsOfEachLength(t *testing.T) {
	for k := range 64 {
		one := uint64(1) << k
		for _, x := range []uint64{one, one | one>>1, one | 1, one + (one - 1)} {
			if n := word.Len(x); n != k+1 {
				t.Errorf("Len(%d) = %d; want %d", x, n, k+1)
			}
			if n := word.Lead(x); n != 63-k {
				t.Errorf("Lead(%d) = %d; want %d", x, n, 63-k)
			}
		}
		for _, x := range []uint64{one, most << k, one | 1<<63} {
			if n := word.Trail(x); n != k {
				t.Errorf("Trail(%d) = %d; want %d", x, n, k)
			}
		}
	}
}
