package nat_test

import (
	"math"
	"math/big"
	"slices"
	"testing"

	"actuary/api"
	"actuary/nat"
)

const most = 1<<64 - 1

// list is some words, the lowest first, as nat.Nat has them.
type list = []uint64

// numbers are those of up to three words that are edges of words: 0 among
// them, and every way for noughts to stand below, between and above.
func numbers() []nat.Nat {
	edges := list{0, 1, 0x0123456789abcdef, 1 << 63, most}
	ns := []nat.Nat{nat.Of()}
	for _, x := range edges {
		ns = append(ns, nat.Of(x))
		for _, y := range edges {
			ns = append(ns, nat.Of(x, y))
			for _, z := range edges {
				ns = append(ns, nat.Of(x, y, z))
			}
		}
	}
	return ns
}

// shifts are the edges of a shift, by words and as a whole.
var shifts = []int{0, 1, 2, 31, 62, 63, 64, 65, 127, 128, 129, 190, 191, 192, 193, 256, 65535, 65536}

// negative are the numbers of words and bits that there can't be.
var negative = []int{-1, -2, -63, -64, -65, -65536, -65537, math.MinInt + 1, math.MinInt}

// far are the numbers of words and bits that are above any number's.
var far = []int{1 << 20, 1 << 32, math.MaxInt - 63, math.MaxInt - 1, math.MaxInt}

// value is the number of a Nat, by its words.
func value(n nat.Nat) *big.Int {
	v := new(big.Int)
	for _, x := range slices.Backward(n.Words()) {
		v.Lsh(v, 64).Or(v, new(big.Int).SetUint64(x))
	}
	return v
}

// power is 2 to the k.
func power(k int) *big.Int { return new(big.Int).Lsh(big.NewInt(1), uint(k)) }

// is tells whether n is v, and in good form: the last of its words is not 0.
func is(n nat.Nat, v *big.Int) bool {
	return value(n).Cmp(v) == 0 && n.Len() == (v.BitLen()+63)/64
}

// has tells whether n has just these words.
func has(n nat.Nat, words list) bool {
	return slices.Equal(n.Words(), words) && n.Len() == len(words) && n.Zero() == (len(words) == 0)
}

func TestP21OfTrimsNoughts(t *testing.T) {
	for _, c := range []struct{ digits, words list }{
		{nil, nil},
		{list{}, nil},
		{list{0}, nil},
		{list{0, 0, 0}, nil},
		{list{7}, list{7}},
		{list{most}, list{most}},
		{list{7, 0}, list{7}},
		{list{7, 0, 0, 0}, list{7}},
		{list{1, 2, 0}, list{1, 2}},
		{list{0, 1}, list{0, 1}},
		{list{0, 0, 3}, list{0, 0, 3}},
		{list{5, 0, 3, 0, 0}, list{5, 0, 3}},
		{list{most, most, most}, list{most, most, most}},
	} {
		if n := nat.Of(c.digits...); !has(n, c.words) {
			t.Errorf("Of(%d...) has the words %d, %d of them; Zero is %t", c.digits, n.Words(), n.Len(), n.Zero())
		}
	}
}

func TestP21ZeroNatIsNought(t *testing.T) {
	var n nat.Nat
	if !has(n, nil) || n.Bits() != 0 || n.Twos() != 0 || n.Bit(0) != 0 || nat.Cmp(n, nat.Of(0, 0)) != 0 {
		t.Errorf("a zero Nat has the words %d", n.Words())
	}
	if x, one := n.Uint(); x != 0 || !one {
		t.Errorf("Uint of a zero Nat = %d, %t", x, one)
	}
	if s := nat.Add(n, nat.Of(5)); !has(s, list{5}) {
		t.Errorf("0 + 5 has the words %d", s.Words())
	}
	if s, ok := n.Shl(65536); !ok || !has(s, nil) {
		t.Errorf("0 by 65536 up has the words %d, %t", s.Words(), ok)
	}
}

func TestP21OfKeepsNoArgument(t *testing.T) {
	digits := list{1, 2, 0}
	n := nat.Of(digits...)
	digits[0], digits[1], digits[2] = 7, 8, 9
	if !has(n, list{1, 2}) {
		t.Errorf("the words have become %d", n.Words())
	}
	digits = list{5, 0, 0}
	nat.Of(digits...)
	if !slices.Equal(digits, list{5, 0, 0}) {
		t.Errorf("Of made its argument %d", digits)
	}
}

func TestP21WordsAreNew(t *testing.T) {
	n := nat.Of(1, 2)
	words := n.Words()
	words[0], words[1] = 7, 8
	_ = append(words[:1], 9, 9)
	if !has(n, list{1, 2}) {
		t.Errorf("the words have become %d", n.Words())
	}
}

func TestP21Word(t *testing.T) {
	n := nat.Of(5, 0, 7, 0)
	for k, want := range []uint64{5, 0, 7, 0, 0, 0} {
		if x := n.Word(k); x != want {
			t.Errorf("Word(%d) = %d; want %d", k, x, want)
		}
	}
	for _, k := range slices.Concat(negative, far) {
		if x := n.Word(k); x != 0 {
			t.Errorf("Word(%d) = %d; want 0", k, x)
		}
		if x := nat.Of().Word(k); x != 0 {
			t.Errorf("Word(%d) of 0 = %d; want 0", k, x)
		}
	}
	if x := nat.Of().Word(0); x != 0 {
		t.Errorf("Word(0) of 0 = %d; want 0", x)
	}
}

func TestP21Zero(t *testing.T) {
	for _, n := range numbers() {
		if z := n.Zero(); z != (value(n).Sign() == 0) {
			t.Errorf("Zero of %v = %t", value(n), z)
		}
	}
}

func TestP21Uint(t *testing.T) {
	for _, c := range []struct {
		digits list
		x      uint64
		one    bool
	}{
		{nil, 0, true},
		{list{0, 0}, 0, true},
		{list{1}, 1, true},
		{list{most}, most, true},
		{list{most, 0, 0}, most, true},
		{list{0, 1}, 0, false},
		{list{5, 7}, 0, false},
		{list{most, most, most}, 0, false},
		{list{9, 0, 1}, 0, false},
	} {
		if x, one := nat.Of(c.digits...).Uint(); x != c.x || one != c.one {
			t.Errorf("Uint of Of(%d...) = %d, %t; want %d, %t", c.digits, x, one, c.x, c.one)
		}
	}
}

func TestP22BitsExamples(t *testing.T) {
	for _, c := range []struct {
		digits     list
		bits, twos int
	}{
		{nil, 0, 0},
		{list{0, 0}, 0, 0},
		{list{1}, 1, 0},
		{list{2}, 2, 1},
		{list{3}, 2, 0},
		{list{40}, 6, 3},
		{list{1 << 63}, 64, 63},
		{list{most}, 64, 0},
		{list{most, 0}, 64, 0},
		{list{0, 1}, 65, 64},
		{list{1, 2, 0}, 66, 0},
		{list{0, 12}, 68, 66},
		{list{8, 12}, 68, 3},
		{list{0, 0, 1 << 63}, 192, 191},
		{list{0, most, most}, 192, 64},
	} {
		n := nat.Of(c.digits...)
		if k := n.Bits(); k != c.bits {
			t.Errorf("Bits of Of(%d...) = %d; want %d", c.digits, k, c.bits)
		}
		if k := n.Twos(); k != c.twos {
			t.Errorf("Twos of Of(%d...) = %d; want %d", c.digits, k, c.twos)
		}
	}
}

func TestP22EachBit(t *testing.T) {
	for _, n := range numbers() {
		v := value(n)
		if k := n.Bits(); k != v.BitLen() {
			t.Errorf("Bits of %v = %d", v, k)
		}
		if k := n.Twos(); k != int(v.TrailingZeroBits()) {
			t.Errorf("Twos of %v = %d", v, k)
		}
		for k := range 260 {
			if b := n.Bit(k); b != uint64(v.Bit(k)) {
				t.Errorf("Bit(%d) of %v = %d", k, v, b)
			}
		}
	}
}

func TestP22BitOutside(t *testing.T) {
	for _, n := range []nat.Nat{nat.Of(), nat.Of(most), nat.Of(most, most, most)} {
		for _, k := range slices.Concat(negative, far) {
			if b := n.Bit(k); b != 0 {
				t.Errorf("Bit(%d) of %v = %d; want 0", k, value(n), b)
			}
		}
	}
}

func TestP22BitsOfEachPowerOfTwo(t *testing.T) {
	for _, k := range shifts {
		n, ok := nat.Of(1).Shl(k)
		if !ok || n.Bits() != k+1 || n.Twos() != k || n.Bit(k) != 1 || n.Bit(k+1) != 0 || n.Bit(k-1) != 0 {
			t.Errorf("2 to the %d has %d bits, %d twos, %t", k, n.Bits(), n.Twos(), ok)
		}
	}
}

func TestP23CmpExamples(t *testing.T) {
	for _, c := range []struct {
		a, b list
		want int
	}{
		{nil, nil, 0},
		{nil, list{0, 0}, 0},
		{nil, list{1}, -1},
		{list{5, 0}, list{5}, 0},
		{list{5}, list{6}, -1},
		{list{1 << 63}, list{1}, 1},
		{list{most}, list{1, 0, 0}, 1},
		{list{5}, list{0, 1}, -1},
		{list{0, 2}, list{9, 1}, 1},
		{list{9, 1}, list{8, 1}, 1},
		{list{1, 2, 3}, list{3, 2, 1}, 1},
		{list{most, most}, list{0, 0, 1}, -1},
	} {
		a, b := nat.Of(c.a...), nat.Of(c.b...)
		if got := nat.Cmp(a, b); got != c.want {
			t.Errorf("Cmp(%d, %d) = %d; want %d", c.a, c.b, got, c.want)
		}
		if got := nat.Cmp(b, a); got != -c.want {
			t.Errorf("Cmp(%d, %d) = %d; want %d", c.b, c.a, got, -c.want)
		}
	}
}

func TestP23AddExamples(t *testing.T) {
	for _, c := range []struct{ a, b, sum list }{
		{nil, nil, nil},
		{nil, list{5}, list{5}},
		{list{5, 0}, list{0, 0}, list{5}},
		{list{2}, list{3}, list{5}},
		{list{most}, list{1}, list{0, 1}},
		{list{most}, list{most}, list{most - 1, 1}},
		{list{most, most}, list{1}, list{0, 0, 1}},
		{list{1}, list{most, most, most}, list{0, 0, 0, 1}},
		{list{most, 1}, list{1, 1, 1}, list{0, 3, 1}},
		{list{0, 1}, list{7}, list{7, 1}},
	} {
		a, b := nat.Of(c.a...), nat.Of(c.b...)
		if s := nat.Add(a, b); !has(s, c.sum) {
			t.Errorf("Add(%d, %d) = %d; want %d", c.a, c.b, s.Words(), c.sum)
		}
		if s := nat.Add(b, a); !has(s, c.sum) {
			t.Errorf("Add(%d, %d) = %d; want %d", c.b, c.a, s.Words(), c.sum)
		}
	}
}

func TestP23SubExamples(t *testing.T) {
	for _, c := range []struct {
		a, b, difference list
		ok               bool
	}{
		{nil, nil, nil, true},
		{list{0, 0}, list{0}, nil, true},
		{list{5}, nil, list{5}, true},
		{list{5}, list{3}, list{2}, true},
		{list{5}, list{5}, nil, true},
		{list{0, 1}, list{1}, list{most}, true},
		{list{0, 0, 1}, list{1}, list{most, most}, true},
		{list{5, 0, 1}, list{6, 0, 1, 0}, nil, false},
		{list{6, 2, 1}, list{5, 2, 1}, list{1}, true},
		{list{4, 2}, list{5, 1}, list{most}, true},
		{list{0, 0, 0, 1}, list{0, 1}, list{0, most, most}, true},

		{nil, list{1}, nil, false},
		{list{1}, list{2}, nil, false},
		{list{most}, list{0, 1}, nil, false},
		{list{9, 1}, list{0, 2}, nil, false},
		{list{most, most}, list{0, 0, 1}, nil, false},
	} {
		d, ok := nat.Sub(nat.Of(c.a...), nat.Of(c.b...))
		if ok != c.ok || !has(d, c.difference) {
			t.Errorf("Sub(%d, %d) = %d, %t; want %d, %t", c.a, c.b, d.Words(), ok, c.difference, c.ok)
		}
	}
}

func TestP23OrderSumsAndDifferencesKeepTheNumber(t *testing.T) {
	ns := numbers()
	for _, a := range ns {
		for _, b := range ns {
			v, w := value(a), value(b)
			if got := nat.Cmp(a, b); got != v.Cmp(w) {
				t.Errorf("Cmp(%v, %v) = %d", v, w, got)
			}
			if s := nat.Add(a, b); !is(s, new(big.Int).Add(v, w)) {
				t.Errorf("Add(%v, %v) = %d", v, w, s.Words())
			}
			d, ok := nat.Sub(a, b)
			want := new(big.Int)
			if v.Cmp(w) >= 0 {
				want.Sub(v, w)
			}
			if ok != (v.Cmp(w) >= 0) || !is(d, want) {
				t.Errorf("Sub(%v, %v) = %d, %t", v, w, d.Words(), ok)
			}
			if !is(a, v) || !is(b, w) {
				t.Fatalf("%v and %v have become %v and %v", v, w, value(a), value(b))
			}
		}
	}
}

func TestP24ShlExamples(t *testing.T) {
	for _, c := range []struct {
		digits list
		k      int
		words  list
		ok     bool
	}{
		{list{3}, 0, list{3}, true},
		{list{3}, 1, list{6}, true},
		{list{3}, 63, list{1 << 63, 1}, true},
		{list{3}, 64, list{0, 3}, true},
		{list{3}, 127, list{0, 1 << 63, 1}, true},
		{list{most, most}, 4, list{most - 15, most, 15}, true},
		{list{5, 7}, 128, list{0, 0, 5, 7}, true},
		{nil, 0, nil, true},
		{nil, 65536, nil, true},
		{list{1, 0}, 0, list{1}, true},

		{list{3}, -1, nil, false},
		{list{3}, 65537, nil, false},
		{nil, -1, nil, false},
		{nil, 65537, nil, false},
	} {
		s, ok := nat.Of(c.digits...).Shl(c.k)
		if ok != c.ok || !has(s, c.words) {
			t.Errorf("Shl(%d) of %d = %d, %t; want %d, %t", c.k, c.digits, s.Words(), ok, c.words, c.ok)
		}
	}
}

func TestP24ShlAtItsLimit(t *testing.T) {
	if api.MaxShift != 65536 {
		t.Fatalf("MaxShift is %d", api.MaxShift)
	}
	n := nat.Of(5, 1<<63)
	s, ok := n.Shl(65536)
	if want := append(make(list, 1024), 5, 1<<63); !ok || !has(s, want) {
		t.Errorf("Shl(65536) has %d words, %t", s.Len(), ok)
	}
	// The limit is on the shift alone: what was shifted that far may be shifted again.
	if again, ok := s.Shl(65536); !ok || !is(again, new(big.Int).Lsh(value(n), 131072)) {
		t.Errorf("Shl(65536) twice has %d words, %t", again.Len(), ok)
	}
	for _, k := range slices.Concat(negative, far, []int{65537, 65600, 131072}) {
		if s, ok := n.Shl(k); ok || !has(s, nil) {
			t.Errorf("Shl(%d) = %d, %t; want false", k, s.Words(), ok)
		}
	}
}

func TestP24ShrExamples(t *testing.T) {
	for _, c := range []struct {
		digits list
		k      int
		words  list
	}{
		{list{1, 2, 0}, 1, list{0, 1}},
		{list{5, 7}, 0, list{5, 7}},
		{list{7}, 1, list{3}},
		{list{7}, 2, list{1}},
		{list{7}, 3, nil},
		{list{0, 1}, 1, list{1 << 63}},
		{list{0, 1}, 64, list{1}},
		{list{0, 1}, 65, nil},
		{list{5, 7}, 64, list{7}},
		{list{5, 7}, 65, list{3}},
		{list{most, most, most}, 68, list{most, most >> 4}},
		{list{most, most, most}, 191, list{1}},
		{list{most, most, most}, 192, nil},
		{nil, 0, nil},
		{nil, 65536, nil},
		{list{5, 7}, -1, nil},
		{nil, -1, nil},
	} {
		if s := nat.Of(c.digits...).Shr(c.k); !has(s, c.words) {
			t.Errorf("Shr(%d) of %d = %d; want %d", c.k, c.digits, s.Words(), c.words)
		}
	}
}

func TestP24LowExamples(t *testing.T) {
	for _, c := range []struct {
		digits list
		k      int
		words  list
	}{
		{list{5, 7}, 65, list{5, 1}},
		{list{5, 7}, 64, list{5}},
		{list{5, 7}, 66, list{5, 3}},
		{list{5, 7}, 67, list{5, 7}},
		{list{5, 7}, 128, list{5, 7}},
		{list{5, 7}, 65536, list{5, 7}},
		{list{5, 7}, 2, list{1}},
		{list{5, 7}, 1, list{1}},
		{list{5, 7}, 0, nil},
		{list{4, 8}, 66, list{4}},
		{list{0, 8}, 67, nil},
		{list{most}, 63, list{most >> 1}},
		{list{most}, 64, list{most}},
		{list{9, 0, 0, 1}, 192, list{9}},
		{nil, 0, nil},
		{nil, 65536, nil},
		{list{5, 7}, -1, nil},
		{nil, -1, nil},
	} {
		if l := nat.Of(c.digits...).Low(c.k); !has(l, c.words) {
			t.Errorf("Low(%d) of %d = %d; want %d", c.k, c.digits, l.Words(), c.words)
		}
	}
}

func TestP24ShrAndLowOutside(t *testing.T) {
	words := list{most, 0, most}
	n := nat.Of(words...)
	for _, k := range negative {
		if s, l := n.Shr(k), n.Low(k); !has(s, nil) || !has(l, nil) {
			t.Errorf("Shr(%d) = %d, Low(%d) = %d; want 0", k, s.Words(), k, l.Words())
		}
	}
	// Only Shl has a limit: above it these two go on.
	for _, k := range append([]int{65537}, far...) {
		if s, l := n.Shr(k), n.Low(k); !has(s, nil) || !has(l, words) {
			t.Errorf("Shr(%d) = %d, Low(%d) = %d", k, s.Words(), k, l.Words())
		}
	}
}

func TestP24ShiftsAboveTheLimitOfShl(t *testing.T) {
	words := append(make(list, 2048), 12) // 2 to the 131074, times 3
	n := nat.Of(words...)
	if s := n.Shr(131072); !has(s, list{12}) {
		t.Errorf("Shr(131072) = %d", s.Words())
	}
	if l := n.Low(131075); !has(l, append(make(list, 2048), 4)) {
		t.Errorf("Low(131075) has %d words", l.Len())
	}
}

func TestP24ShiftsKeepTheNumber(t *testing.T) {
	for _, n := range numbers() {
		v := value(n)
		for _, k := range shifts {
			if s, ok := n.Shl(k); !ok || !is(s, new(big.Int).Lsh(v, uint(k))) {
				t.Errorf("Shl(%d) of %v has %d words, %t", k, v, s.Len(), ok)
			}
			if s := n.Shr(k); !is(s, new(big.Int).Rsh(v, uint(k))) {
				t.Errorf("Shr(%d) of %v = %d", k, v, s.Words())
			}
			if l := n.Low(k); !is(l, new(big.Int).Mod(v, power(k))) {
				t.Errorf("Low(%d) of %v = %d", k, v, l.Words())
			}
			if !is(n, v) {
				t.Fatalf("%v has become %v", v, value(n))
			}
		}
	}
}
