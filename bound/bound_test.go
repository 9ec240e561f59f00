package bound_test

import (
	"math"
	"math/big"
	"math/rand/v2"
	"slices"
	"testing"

	"actuary/bound"
	"actuary/elim"
	"actuary/lu"
	"actuary/mat"
	"actuary/pack"
	"actuary/rat"
	"actuary/vec"
)

const (
	maxDim    = 64
	wholeBits = 1 << 30
	partBits  = 1 << 20
	mostWays  = 1 << 40
)

// answer is what the functions of this layer tell.
type answer struct {
	number int
	ok     bool
}

// got is an answer of two results.
func got(number int, ok bool) answer { return answer{number, ok} }

// none is what stands beside false, but of Bases.
var none = answer{}

// lengthOf is the least k for which n is less than 2 to the k.
func lengthOf(n int) int {
	k := 0
	for power := 1; power <= n; power *= 2 {
		k++
	}
	return k
}

// determinant is n * b + c + 1, counted with math/big.
func determinant(n int, b *big.Int) *big.Int {
	c := n * lengthOf(n) / 2
	if n*lengthOf(n)%2 == 1 {
		c++
	}
	d := new(big.Int).Mul(big.NewInt(int64(n)), b)
	return d.Add(d, big.NewInt(int64(c+1)))
}

// wanted are what Det, Rational and Solution of n and b are to tell.
func wanted(n, b int) (answer, answer, answer) {
	det, rational, solution := none, none, none
	if n < 0 || n > maxDim || b < 0 {
		return det, rational, solution
	}
	long, rows := big.NewInt(int64(b)), big.NewInt(int64(n))
	if b <= wholeBits {
		det = answer{int(determinant(n, long).Int64()), true}
	}
	if b <= partBits {
		row := new(big.Int).Mul(rows, long)
		r := determinant(n, row)
		r.Add(r, new(big.Int).Mul(rows, row)).Add(r, big.NewInt(1))
		rational = answer{int(r.Int64()), true}
		s := determinant(n, row.Add(row, long))
		solution = answer{int(s.Lsh(s, 1).Int64()), true}
	}
	return det, rational, solution
}

// The examples of the chapter, and what is reckoned by hand.
func TestP151Table(t *testing.T) {
	for _, c := range []struct {
		n, bits                 int
		det, rational, solution answer
	}{
		{2, 3, answer{9, true}, answer{28, true}, answer{42, true}},
		{0, 0, answer{1, true}, answer{2, true}, answer{2, true}},
		{0, 1, answer{1, true}, answer{2, true}, answer{2, true}},
		{1, 0, answer{2, true}, answer{3, true}, answer{4, true}},
		{1, 1, answer{3, true}, answer{5, true}, answer{8, true}},
		{1, 7, answer{9, true}, answer{17, true}, answer{32, true}},
		{2, 0, answer{3, true}, answer{4, true}, answer{6, true}},
		{3, 0, answer{4, true}, answer{5, true}, answer{8, true}},
		{3, 10, answer{34, true}, answer{185, true}, answer{248, true}},
		{4, 0, answer{7, true}, answer{8, true}, answer{14, true}},
		{4, 1, answer{11, true}, answer{40, true}, answer{54, true}},
		{5, 0, answer{9, true}, answer{10, true}, answer{18, true}},
		{7, 0, answer{12, true}, answer{13, true}, answer{24, true}},
		{8, 0, answer{17, true}, answer{18, true}, answer{34, true}},
		{31, 0, answer{79, true}, answer{80, true}, answer{158, true}},
		{63, 0, answer{190, true}, answer{191, true}, answer{380, true}},
		{64, 0, answer{225, true}, answer{226, true}, answer{450, true}},
		{64, 1, answer{289, true}, answer{8418, true}, answer{8770, true}},
		{65, 0, none, none, none},
		{65, 1, none, none, none},
		{-1, 0, none, none, none},
		{-1, -1, none, none, none},
		{-2, 1, none, none, none},
		{0, -1, none, none, none},
		{1, -1, none, none, none},
		{64, -1, none, none, none},
		{1, 1 << 20, answer{1<<20 + 2, true}, answer{2<<20 + 3, true}, answer{4<<20 + 4, true}},
		{1, 1<<20 + 1, answer{1<<20 + 3, true}, none, none},
		{64, 1 << 20, answer{1<<26 + 225, true}, answer{2<<32 + 226, true}, answer{65<<27 + 450, true}},
		{64, 1<<20 + 1, answer{1<<26 + 64 + 225, true}, none, none},
		{0, 1 << 20, answer{1, true}, answer{2, true}, answer{2, true}},
		{0, 1<<20 + 1, answer{1, true}, none, none},
		{1, 1<<30 - 1, answer{1<<30 + 1, true}, none, none},
		{1, 1 << 30, answer{1<<30 + 2, true}, none, none},
		{1, 1<<30 + 1, none, none, none},
		{0, 1 << 30, answer{1, true}, none, none},
		{0, 1<<30 + 1, none, none, none},
		{64, 1 << 30, answer{1<<36 + 225, true}, none, none},
		{64, 1<<30 + 1, none, none, none},
		{65, 1 << 30, none, none, none},
		{0, math.MaxInt, none, none, none},
		{1, math.MaxInt, none, none, none},
		{64, math.MaxInt, none, none, none},
		{0, math.MinInt, none, none, none},
		{64, math.MinInt, none, none, none},
		{math.MaxInt, 0, none, none, none},
		{math.MaxInt, 1, none, none, none},
		{math.MinInt, 0, none, none, none},
		{math.MinInt, 1, none, none, none},
		{math.MaxInt, math.MaxInt, none, none, none},
		{math.MinInt, math.MinInt, none, none, none},
		{math.MaxInt, math.MinInt, none, none, none},
		{math.MinInt, math.MaxInt, none, none, none},
		{1 << 32, 0, none, none, none},
		{0, 1 << 32, none, none, none},
		{1, 1 << 62, none, none, none},
	} {
		if a := got(bound.Det(c.n, c.bits)); a != c.det {
			t.Errorf("Det(%d, %d) = %v; want %v", c.n, c.bits, a, c.det)
		}
		if a := got(bound.Rational(c.n, c.bits)); a != c.rational {
			t.Errorf("Rational(%d, %d) = %v; want %v", c.n, c.bits, a, c.rational)
		}
		if a := got(bound.Solution(c.n, c.bits)); a != c.solution {
			t.Errorf("Solution(%d, %d) = %v; want %v", c.n, c.bits, a, c.solution)
		}
	}
}

// turns are ints at which something begins or ends, and their neighbours.
func turns() []int {
	all := []int{math.MinInt, math.MinInt + 1, math.MaxInt - 1, math.MaxInt}
	for _, k := range []int{0, 64, 1000, 1 << 16, partBits, wholeBits, 1 << 31, 1 << 32, mostWays, 1 << 56, 1 << 57, 1 << 58, 1 << 62} {
		for d := -2; d <= 2; d++ {
			all = append(all, k+d, -k+d)
		}
	}
	return all
}

// heldBounds holds all three against what they are to tell.
func heldBounds(t *testing.T, n, b int) {
	t.Helper()
	det, rational, solution := wanted(n, b)
	if a := got(bound.Det(n, b)); a != det {
		t.Errorf("Det(%d, %d) = %v; want %v", n, b, a, det)
	}
	if a := got(bound.Rational(n, b)); a != rational {
		t.Errorf("Rational(%d, %d) = %v; want %v", n, b, a, rational)
	}
	if a := got(bound.Solution(n, b)); a != solution {
		t.Errorf("Solution(%d, %d) = %v; want %v", n, b, a, solution)
	}
}

// All n that there may be and some beside them, with many b.
func TestP151All(t *testing.T) {
	for n := -5; n <= maxDim+70; n++ {
		for b := -3; b <= 200; b++ {
			heldBounds(t, n, b)
		}
		for _, b := range turns() {
			heldBounds(t, n, b)
		}
	}
	for _, n := range turns() {
		for _, b := range turns() {
			heldBounds(t, n, b)
		}
	}
}

// Each call tells the same again, whatever was asked between.
func TestP151Again(t *testing.T) {
	random := rand.New(rand.NewPCG(15, 1))
	for range 2000 {
		heldBounds(t, random.IntN(maxDim+6)-3, random.IntN(partBits+6)-3)
		heldBounds(t, random.IntN(maxDim+6)-3, random.IntN(wholeBits+wholeBits/4))
	}
}

// table is a square matrix of fractions, as math/big has them.
type table [][]*big.Rat

// square is what at tells, for n rows.
func square(n int, at func(r, c int) *big.Rat) table {
	m := make(table, n)
	for r := range m {
		for c := range n {
			m[r] = append(m[r], at(r, c))
		}
	}
	return m
}

// bitsOf is how many bits both parts of a fraction have.
func bitsOf(x *big.Rat) int {
	return x.Num().BitLen() + x.Denom().BitLen()
}

// whole is k as a fraction.
func whole(k *big.Int) *big.Rat { return new(big.Rat).SetInt(k) }

// solved is the determinant of a matrix, and where that is not 0 the solution
// for v. It goes by elimination over whole numbers, each lead dividing what
// comes of the next.
func solved(m table, v []*big.Rat) (*big.Rat, []*big.Rat) {
	n := len(m)
	rows, times := wholeRows(m, v)
	last, sign := big.NewInt(1), int64(1)
	for k := range n {
		lead := slices.IndexFunc(rows[k:], func(row []*big.Int) bool { return row[k].Sign() != 0 })
		if lead < 0 {
			return new(big.Rat), nil
		}
		if lead > 0 {
			rows[k], rows[k+lead] = rows[k+lead], rows[k]
			sign = -sign
		}
		for r := range rows {
			if r != k {
				cleared(rows, r, k, last)
			}
		}
		last = rows[k][k]
	}
	det := new(big.Rat).SetFrac(new(big.Int).Mul(last, big.NewInt(sign)), times)
	x := make([]*big.Rat, n)
	for k := range x {
		x[k] = new(big.Rat).SetFrac(rows[k][n], rows[k][k])
	}
	return det, x
}

// cleared makes column k of row r 0 by row k.
func cleared(rows [][]*big.Int, r, k int, last *big.Int) {
	by, lead := rows[k], rows[k][k]
	share := new(big.Int).Set(rows[r][k])
	for c, x := range rows[r] {
		y := new(big.Int).Mul(x, lead)
		y.Sub(y, new(big.Int).Mul(share, by[c]))
		rows[r][c] = y.Quo(y, last)
	}
}

// wholeRows are the rows, each with its element of v, times what makes them
// whole, and the product of all these.
func wholeRows(m table, v []*big.Rat) ([][]*big.Int, *big.Int) {
	rows, all := make([][]*big.Int, len(m)), big.NewInt(1)
	for r := range m {
		line := append(slices.Clone(m[r]), v[r])
		times := big.NewInt(1)
		for _, x := range line {
			common := new(big.Int).GCD(nil, nil, times, x.Denom())
			times.Mul(times, new(big.Int).Quo(x.Denom(), common))
		}
		for _, x := range line {
			y := new(big.Rat).Mul(x, whole(times))
			rows[r] = append(rows[r], y.Num())
		}
		all.Mul(all, times)
	}
	return rows, all
}

// noughts are n of 0.
func noughts(n int) []*big.Rat {
	return listed(n, func(int) *big.Rat { return new(big.Rat) })
}

// listed are n of what at tells.
func listed(n int, at func(k int) *big.Rat) []*big.Rat {
	all := make([]*big.Rat, n)
	for k := range all {
		all[k] = at(k)
	}
	return all
}

// longest is how many bits the longest part of any of some fractions has.
func longest(m table, v []*big.Rat) int {
	most := 0
	for _, row := range append(slices.Clone(m), v) {
		for _, x := range row {
			most = max(most, x.Num().BitLen(), x.Denom().BitLen())
		}
	}
	return most
}

// heldWhole holds the determinant of a matrix of integers, whose bits b are,
// to Det, and tells by how many bits it stays below that.
func heldWhole(t *testing.T, m table, b int) int {
	t.Helper()
	v := noughts(len(m))
	if l := longest(m, v); l > max(b, 1) {
		t.Fatalf("numbers of %d bits instead of %d", l, b)
	}
	det, _ := solved(m, v)
	most, ok := bound.Det(len(m), b)
	if !ok || !det.IsInt() || det.Num().BitLen() > most {
		t.Errorf("a determinant of %d rows of integers of %d bits has %d; Det is %d, %t", len(m), b, det.Num().BitLen(), most, ok)
	}
	return most - det.Num().BitLen()
}

// heldFractions holds determinant and solution of fractions, whose parts have
// at most b bits, to Rational and Solution, and tells by how many bits the
// longest of each stay below these; the last is -1, if there is no solution.
func heldFractions(t *testing.T, m table, v []*big.Rat, b int) (int, int) {
	t.Helper()
	n := len(m)
	if l := longest(m, v); l > b {
		t.Fatalf("parts of %d bits instead of %d", l, b)
	}
	det, x := solved(m, v)
	most, ok := bound.Rational(n, b)
	if !ok || bitsOf(det) > most {
		t.Errorf("a determinant of %d rows of fractions of %d bits has %d; Rational is %d, %t", n, b, bitsOf(det), most, ok)
	}
	if det.Sign() == 0 {
		return most - bitsOf(det), -1
	}
	long := 0
	for _, e := range x {
		long = max(long, bitsOf(e))
	}
	mostX, ok := bound.Solution(n, b)
	if !ok || long > mostX {
		t.Errorf("a solution of %d rows of fractions of %d bits has %d; Solution is %d, %t", n, b, long, mostX, ok)
	}
	return most - bitsOf(det), mostX - long
}

// signs are 1 and -1 in n rows, each of which is square to each other one; n is a power of 2.
func signs(n int) [][]int {
	if n == 1 {
		return [][]int{{1}}
	}
	half := signs(n / 2)
	all := make([][]int, n)
	for r := range all {
		for c := range n {
			s := half[r%(n/2)][c%(n/2)]
			if r >= n/2 && c >= n/2 {
				s = -s
			}
			all[r] = append(all[r], s)
		}
	}
	return all
}

// spread are n rows of 1 and -1 whose determinant is great: those of the next
// power of 2 without their first rows and columns.
func spread(n int) [][]int {
	size := 1
	for size < n {
		size *= 2
	}
	all := [][]int{}
	for _, row := range signs(size)[size-n:] {
		all = append(all, row[size-n:])
	}
	return all
}

// full is the greatest number of b bits.
func full(b int) *big.Int {
	k := new(big.Int).Lsh(big.NewInt(1), uint(b))
	return k.Sub(k, big.NewInt(1))
}

// Matrices of the greatest numbers there may be, with signs that make the
// determinant great: for a power of 2 there is no greater one.
func TestP152WholeNearBound(t *testing.T) {
	for _, c := range []struct{ n, below int }{
		{0, 0}, {1, 2}, {2, 2}, {3, 3}, {4, 3}, {5, 9}, {6, 7}, {7, 3}, {8, 5}, {9, 17}, {12, 17}, {15, 4}, {16, 9},
		{17, 33}, {24, 33}, {31, 4}, {32, 17}, {63, 4}, {64, 33},
	} {
		pattern := spread(c.n)
		for _, b := range []int{1, 2, 3, 10, 31, 64, 65} {
			m := square(c.n, func(r, k int) *big.Rat {
				return whole(new(big.Int).Mul(full(b), big.NewInt(int64(pattern[r][k]))))
			})
			if below := heldWhole(t, m, b); b > 8 && below > c.below {
				t.Errorf("a determinant of %d rows of %d bits is %d below the bound; want %d", c.n, b, below, c.below)
			}
		}
	}
}

// Few rows of long numbers.
func TestP152WholeLong(t *testing.T) {
	for _, c := range []struct{ n, b, below int }{{1, 1 << 20, 2}, {2, 1 << 20, 2}, {3, 1 << 16, 3}, {4, 1 << 16, 3}, {8, 1 << 12, 5}} {
		pattern, greatest := spread(c.n), full(c.b)
		m := square(c.n, func(r, k int) *big.Rat {
			return whole(new(big.Int).Mul(greatest, big.NewInt(int64(pattern[r][k]))))
		})
		if below := heldWhole(t, m, c.b); below > c.below {
			t.Errorf("a determinant of %d rows of %d bits is %d below the bound; want %d", c.n, c.b, below, c.below)
		}
	}
}

// All matrices of 1 row of up to 6 bits, of 2 of up to 2, and of 3 of 1.
func TestP152WholeAll(t *testing.T) {
	for _, c := range []struct{ n, b int }{{1, 0}, {1, 1}, {1, 2}, {1, 6}, {2, 0}, {2, 1}, {2, 2}, {3, 0}, {3, 1}} {
		most := 1<<c.b - 1
		places := make([]int, c.n*c.n)
		for k := range places {
			places[k] = -most
		}
		for {
			heldWhole(t, square(c.n, func(r, k int) *big.Rat { return big.NewRat(int64(places[r*c.n+k]), 1) }), c.b)
			if !stepped(places, -most, most) {
				break
			}
		}
	}
}

// stepped goes on to the next numbers from least to most; false, if there are none.
func stepped(places []int, least, most int) bool {
	for k := range places {
		if places[k] < most {
			places[k]++
			return true
		}
		places[k] = least
	}
	return false
}

// long is a random number of at most b bits; mostly of b.
func long(random *rand.Rand, b int) *big.Int {
	k := new(big.Int)
	for range (b + 63) / 64 {
		k.Lsh(k, 64).Or(k, new(big.Int).SetUint64(random.Uint64()))
	}
	k.And(k, full(b))
	switch random.IntN(8) {
	case 0:
		k.SetInt64(int64(random.IntN(2)))
	case 1:
		k.Set(full(b))
	case 2:
		k.Rsh(k, uint(random.IntN(b+1)))
	default:
		k.SetBit(k, b-1, 1)
	}
	if b == 0 {
		k.SetInt64(0)
	}
	if random.IntN(2) == 0 {
		k.Neg(k)
	}
	return k
}

// Random integers of many lengths.
func TestP152WholeRandom(t *testing.T) {
	random := rand.New(rand.NewPCG(15, 2))
	for range 1500 {
		n, b := random.IntN(13), 1+random.IntN(130)
		heldWhole(t, square(n, func(r, c int) *big.Rat { return whole(long(random, b)) }), b)
	}
	for _, n := range []int{20, 33, 48, 64} {
		for _, b := range []int{1, 5, 40} {
			heldWhole(t, square(n, func(r, c int) *big.Rat { return whole(long(random, b)) }), b)
		}
	}
}

// primes are so many of b bits, from the greatest down; for want of them as many as there are.
func primes(count, b int) []*big.Int {
	all := []*big.Int{}
	for k := full(b); len(all) < count && k.BitLen() == b; k = new(big.Int).Sub(k, big.NewInt(1)) {
		if k.ProbablyPrime(0) {
			all = append(all, k)
		}
	}
	return all
}

// Fractions by primes of just so many bits, all different, so that next to
// nothing is in common: both parts of the determinant and of the solution are
// nearly as long as they may be.
func TestP152FractionsNearBound(t *testing.T) {
	random := rand.New(rand.NewPCG(15, 3))
	for n := 1; n <= 8; n++ {
		for _, b := range []int{12, 20, 61, 64, 90} {
			below, pattern := primes(n*(n+1), b), spread(n)
			at := func(r, c int) *big.Rat {
				// Even ones, which are none of the primes.
				top := new(big.Int).Sub(full(b), big.NewInt(int64(1+2*random.IntN(10))))
				x := new(big.Rat).SetFrac(top, below[r*(n+1)+c])
				if c < n && pattern[r][c] < 0 {
					x.Neg(x)
				}
				return x
			}
			m := square(n, at)
			det, x := heldFractions(t, m, listed(n, func(k int) *big.Rat { return at(k, n) }), b)
			if b > 50 && (det > 8 || x > 40) {
				t.Errorf("of %d rows of %d bits they are %d and %d below the bounds", n, b, det, x)
			}
		}
	}
}

// Few rows of fractions of long parts.
func TestP152FractionsLong(t *testing.T) {
	for _, c := range []struct{ n, b int }{{1, 1 << 16}, {2, 1 << 12}, {3, 1 << 10}} {
		pattern := spread(c.n)
		at := func(r, k int) *big.Rat {
			// Neighbours have no common divisor.
			below := new(big.Int).Sub(full(c.b), big.NewInt(int64(2*(r*(c.n+1)+k))))
			x := new(big.Rat).SetFrac(new(big.Int).Sub(below, big.NewInt(1)), below)
			if k < c.n && pattern[r][k] < 0 {
				x.Neg(x)
			}
			return x
		}
		det, x := heldFractions(t, square(c.n, at), listed(c.n, func(k int) *big.Rat { return at(k, c.n) }), c.b)
		if det > 100 || x > 200 {
			t.Errorf("of %d rows of %d bits they are %d and %d below the bounds", c.n, c.b, det, x)
		}
	}
}

// fractionOf is one of two random parts.
func fractionOf(random *rand.Rand, b int) *big.Rat {
	below := long(random, b)
	if below.Sign() == 0 {
		below.SetInt64(1)
	}
	return new(big.Rat).SetFrac(long(random, b), below)
}

// Random fractions of many lengths.
func TestP152FractionsRandom(t *testing.T) {
	random := rand.New(rand.NewPCG(15, 4))
	for range 1500 {
		n, b := random.IntN(7), 1+random.IntN(100)
		at := func() *big.Rat { return fractionOf(random, b) }
		m := square(n, func(r, c int) *big.Rat { return at() })
		heldFractions(t, m, listed(n, func(int) *big.Rat { return at() }), b)
	}
	for _, c := range []struct{ n, b int }{{12, 30}, {16, 9}, {24, 4}} {
		at := func() *big.Rat { return fractionOf(random, c.b) }
		m := square(c.n, func(r, k int) *big.Rat { return at() })
		heldFractions(t, m, listed(c.n, func(int) *big.Rat { return at() }), c.b)
	}
}

// Of no row, of 1 with parts of up to 3 bits, and of 2 with parts of 1, all there are.
func TestP152FractionsAll(t *testing.T) {
	for _, c := range []struct{ n, b int }{{0, 0}, {0, 1}, {1, 1}, {1, 2}, {1, 3}, {2, 1}} {
		kinds := []*big.Rat{}
		for top := -1<<c.b + 1; top < 1<<c.b; top++ {
			for below := 1; below < 1<<c.b; below++ {
				kinds = append(kinds, big.NewRat(int64(top), int64(below)))
			}
		}
		places := make([]int, c.n*(c.n+1))
		for {
			at := func(k int) *big.Rat { return kinds[places[k]] }
			m := square(c.n, func(r, k int) *big.Rat { return at(r*c.n + k) })
			heldFractions(t, m, listed(c.n, func(k int) *big.Rat { return at(c.n*c.n + k) }), c.b)
			if !stepped(places, 0, len(kinds)-1) {
				break
			}
		}
	}
}

// of is the Rat of a fraction, line the Vec of some.
func of(x *big.Rat) rat.Rat {
	a, err := pack.Read(x.RatString())
	if err != nil {
		panic(x)
	}
	return a
}

func line(xs []*big.Rat) vec.Vec {
	v := vec.Vec{}
	for _, x := range xs {
		v = append(v, of(x))
	}
	return v
}

// heldLayers holds what the layers below tell of determinant and solution to the bounds.
func heldLayers(t *testing.T, m table, v []*big.Rat, b int) {
	t.Helper()
	n := len(m)
	rows := []vec.Vec{}
	for _, row := range m {
		rows = append(rows, line(row))
	}
	a, ok := mat.Of(n, rows...)
	det, reckoned := elim.Det(a)
	most, may := bound.Rational(n, b)
	if !ok || !reckoned || !may || det.Bits() > most {
		t.Fatalf("a determinant of %d rows of %d bits has %d Bits; Rational is %d, %t", n, b, det.Bits(), most, may)
	}
	if det.Sign() == 0 {
		return
	}
	parts, _ := lu.Factor(a)
	fromParts, _ := parts.Solve(line(v))
	eliminated, count, _ := elim.Solve(a, line(v))
	if count != elim.One || len(eliminated) != n || len(fromParts) != n {
		t.Fatalf("of %d rows there are %d and %d solved", n, len(eliminated), len(fromParts))
	}
	most, may = bound.Solution(n, b)
	for k := range n {
		if long := max(eliminated[k].Bits(), fromParts[k].Bits()); !may || long > most {
			t.Errorf("a solution of %d rows of %d bits has %d Bits; Solution is %d, %t", n, b, long, most, may)
		}
	}
}

// What the layers below reckon stays within the bounds, too.
func TestP152Layers(t *testing.T) {
	random := rand.New(rand.NewPCG(15, 5))
	for range 150 {
		n, b := random.IntN(6), 1+random.IntN(70)
		at := func() *big.Rat { return fractionOf(random, b) }
		m := square(n, func(r, c int) *big.Rat { return at() })
		heldLayers(t, m, listed(n, func(int) *big.Rat { return at() }), b)
	}
	for _, n := range []int{8, 16, 32} {
		pattern := spread(n)
		m := square(n, func(r, c int) *big.Rat { return big.NewRat(int64(pattern[r][c])*127, 1) })
		heldLayers(t, m, listed(n, func(k int) *big.Rat { return big.NewRat(127, int64(k+1)) }), 7)
	}
}

func TestP153Table(t *testing.T) {
	const top = mostWays
	for _, c := range []struct {
		n, m, most int
		want       answer
	}{
		// The chapter's examples.
		{5, 2, 100, answer{10, true}},
		{64, 32, 1000, answer{1001, false}},
		// m below 0, 0, 1, n, n less 1, greater than n.
		{5, -1, 9, answer{0, true}},
		{5, 0, 9, answer{1, true}},
		{5, 1, 9, answer{5, true}},
		{5, 4, 9, answer{5, true}},
		{5, 5, 9, answer{1, true}},
		{5, 6, 9, answer{0, true}},
		{5, math.MinInt, 9, answer{0, true}},
		{5, math.MaxInt, 9, answer{0, true}},
		// n below 0, 0, 1.
		{-1, -2, 9, answer{0, true}},
		{-1, -1, 9, answer{0, true}},
		{-1, 0, 9, answer{0, true}},
		{-1, 1, 9, answer{0, true}},
		{-3, -4, 9, answer{0, true}},
		{-4, -3, 9, answer{0, true}},
		{0, -1, 9, answer{0, true}},
		{0, 0, 9, answer{1, true}},
		{0, 1, 9, answer{0, true}},
		{1, 0, 9, answer{1, true}},
		{1, 1, 9, answer{1, true}},
		{1, 2, 9, answer{0, true}},
		{math.MinInt, math.MinInt, 9, answer{0, true}},
		{math.MinInt, 0, 9, answer{0, true}},
		{math.MinInt, math.MaxInt, 9, answer{0, true}},
		{math.MaxInt, math.MinInt, 9, answer{0, true}},
		// most below 0, 0, 1, and greater than may be.
		{5, 0, -1, answer{1, false}},
		{5, 2, -1, answer{1, false}},
		{5, 2, math.MinInt, answer{1, false}},
		{5, -1, -1, answer{0, true}},
		{5, 6, math.MinInt, answer{0, true}},
		{5, 0, 0, answer{1, false}},
		{5, 5, 0, answer{1, false}},
		{0, 0, 0, answer{1, false}},
		{0, 0, -1, answer{1, false}},
		{5, 2, 0, answer{1, false}},
		{5, 6, 0, answer{0, true}},
		{5, 0, 1, answer{1, true}},
		{5, 5, 1, answer{1, true}},
		{5, 1, 1, answer{2, false}},
		{2, 1, 1, answer{2, false}},
		{5, 2, top, answer{10, true}},
		{5, 2, top + 1, answer{10, true}},
		{5, 2, math.MaxInt, answer{10, true}},
		{60, 30, 1 << 50, answer{top + 1, false}},
		{60, 30, top, answer{top + 1, false}},
		{60, 30, top - 1, answer{top, false}},
		{60, 30, math.MaxInt, answer{top + 1, false}},
		{60, 30, math.MinInt, answer{1, false}},
		// Just most, one less, one more.
		{5, 2, 9, answer{10, false}},
		{5, 2, 10, answer{10, true}},
		{5, 2, 11, answer{10, true}},
		{10, 9, 9, answer{10, false}},
		{10, 9, 10, answer{10, true}},
		{42, 21, 538257874439, answer{538257874440, false}},
		{42, 21, 538257874440, answer{538257874440, true}},
		{42, 21, 538257874441, answer{538257874440, true}},
		{43, 21, top, answer{1052049481860, true}},
		{43, 22, top, answer{1052049481860, true}},
		{44, 22, top, answer{top + 1, false}},
		{44, 20, top, answer{top + 1, false}},
		{top, 1, top, answer{top, true}},
		{top, 1, math.MaxInt, answer{top, true}},
		{top, 1, top - 1, answer{top, false}},
		{top, top - 1, top, answer{top, true}},
		{top, 2, top, answer{top + 1, false}},
		{top + 1, 1, top, answer{top + 1, false}},
		{top + 1, 1, top + 1, answer{top + 1, false}},
		{top + 1, top, math.MaxInt, answer{top + 1, false}},
		{top - 1, 1, top, answer{top - 1, true}},
		// Many, whose ways are above any int.
		{64, 0, top, answer{1, true}},
		{64, 64, top, answer{1, true}},
		{64, 1, top, answer{64, true}},
		{64, 63, top, answer{64, true}},
		{64, 2, top, answer{2016, true}},
		{64, 62, top, answer{2016, true}},
		{64, 32, top, answer{top + 1, false}},
		{64, 65, top, answer{0, true}},
		{66, 33, math.MaxInt, answer{top + 1, false}},
		{67, 33, math.MaxInt, answer{top + 1, false}},
		{68, 34, math.MaxInt, answer{top + 1, false}},
		{70, 35, 5, answer{6, false}},
		{1 << 32, 1 << 31, top, answer{top + 1, false}},
		{1 << 32, 2, top, answer{top + 1, false}},
		{1<<32 + 1, 2, top, answer{top + 1, false}},
		{math.MaxInt, 0, top, answer{1, true}},
		{math.MaxInt, 0, 0, answer{1, false}},
		{math.MaxInt, math.MaxInt, top, answer{1, true}},
		{math.MaxInt, 1, top, answer{top + 1, false}},
		{math.MaxInt, 1, math.MaxInt, answer{top + 1, false}},
		{math.MaxInt, 1, 7, answer{8, false}},
		{math.MaxInt, math.MaxInt - 1, 7, answer{8, false}},
		{math.MaxInt, 2, top, answer{top + 1, false}},
		{math.MaxInt, 3, top, answer{top + 1, false}},
		{math.MaxInt, math.MaxInt / 2, top, answer{top + 1, false}},
		{math.MaxInt, math.MaxInt/2 + 1, 0, answer{1, false}},
		{math.MaxInt - 1, math.MaxInt, top, answer{0, true}},
		{math.MaxInt - 1, math.MaxInt / 2, top, answer{top + 1, false}},
	} {
		if a := got(bound.Bases(c.n, c.m, c.most)); a != c.want {
			t.Errorf("Bases(%d, %d, %d) = %v; want %v", c.n, c.m, c.most, a, c.want)
		}
	}
}

// counted is what Bases is to tell, if there are so many ways.
func counted(ways *big.Int, most int) answer {
	if most < 0 {
		most = 0
	}
	if most > mostWays {
		most = mostWays
	}
	if ways.Cmp(big.NewInt(int64(most))) > 0 {
		return answer{most + 1, false}
	}
	return answer{int(ways.Int64()), true}
}

// heldBases holds Bases to what it is to tell, at many a most, those at which it turns among them.
func heldBases(t *testing.T, n, m int, ways *big.Int) {
	t.Helper()
	all := turns()
	for d := int64(-2); d <= 2; d++ {
		if near := new(big.Int).Add(ways, big.NewInt(d)); near.IsInt64() {
			all = append(all, int(near.Int64()))
		}
	}
	for _, most := range all {
		if a, want := got(bound.Bases(n, m, most)), counted(ways, most); a != want {
			t.Errorf("Bases(%d, %d, %d) = %v; want %v", n, m, most, a, want)
		}
	}
}

// All n from some below 0 to more than 64, with all m: each number is the sum
// of the two above it.
func TestP153All(t *testing.T) {
	for n := -4; n < 0; n++ {
		for m := -6; m <= 6; m++ {
			heldBases(t, n, m, new(big.Int))
		}
	}
	row := []*big.Int{big.NewInt(1)}
	for n := 0; n <= 90; n++ {
		for m := -3; m <= n+3; m++ {
			ways := new(big.Int)
			if m >= 0 && m <= n {
				ways = row[m]
			}
			heldBases(t, n, m, ways)
		}
		next := []*big.Int{big.NewInt(1)}
		for m := 1; m <= n; m++ {
			next = append(next, new(big.Int).Add(row[m-1], row[m]))
		}
		row = append(next, big.NewInt(1))
	}
}

// chosen is the number of ways to choose m of n, of which m is few.
func chosen(n, m int) *big.Int {
	ways := big.NewInt(1)
	for k := range m {
		ways.Mul(ways, big.NewInt(int64(n-k)))
	}
	for k := range m {
		ways.Quo(ways, big.NewInt(int64(k+1)))
	}
	return ways
}

// For each m the most n of which there are not more ways than are told, and
// its neighbours; the same with as many left out.
func TestP153Greatest(t *testing.T) {
	top := big.NewInt(mostWays)
	for m := 1; m <= 45; m++ {
		low, high := m, mostWays+1
		for high-low > 1 {
			middle := low + (high-low)/2
			if chosen(middle, m).Cmp(top) > 0 {
				high = middle
			} else {
				low = middle
			}
		}
		for n := max(low-3, m); n <= low+3; n++ {
			heldBases(t, n, m, chosen(n, m))
			heldBases(t, n, n-m, chosen(n, m))
		}
	}
}

// Of many, few and all but few; and so many that the ways are above anything told.
func TestP153Many(t *testing.T) {
	many := []int{100, 101, 1000, 65535, 1 << 20, 1 << 31, 1<<32 - 1, 1 << 32, mostWays - 1, mostWays, mostWays + 1, 1 << 62, math.MaxInt - 1, math.MaxInt}
	for _, n := range many {
		for m := range 45 {
			heldBases(t, n, m, chosen(n, m))
			heldBases(t, n, n-m, chosen(n, m))
		}
		above := new(big.Int).Lsh(big.NewInt(1), 41)
		for _, m := range []int{45, 50, n / 2, n - n/2, n/2 + 1, n / 3, n - 45, n - 50} {
			heldBases(t, n, m, above)
		}
		for _, m := range []int{-1, math.MinInt} {
			heldBases(t, n, m, new(big.Int))
		}
		if n < math.MaxInt {
			heldBases(t, n, n+1, new(big.Int))
		}
	}
}

// Random ones.
func TestP153Random(t *testing.T) {
	random := rand.New(rand.NewPCG(15, 6))
	for range 3000 {
		n := int(random.Uint64() >> (1 + random.IntN(63)))
		m := random.IntN(45)
		if m > n {
			continue
		}
		heldBases(t, n, m, chosen(n, m))
		heldBases(t, n, n-m, chosen(n, m))
	}
}
