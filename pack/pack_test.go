package pack_test

import (
	"bytes"
	"errors"
	"math/big"
	"regexp"
	"slices"
	"strings"
	"testing"

	"actuary/api"
	"actuary/integer"
	"actuary/nat"
	"actuary/pack"
	"actuary/rat"
)

const most = 1<<64 - 1

// natural is the Nat of a number, its sign left out.
func natural(v *big.Int) nat.Nat {
	var words []uint64
	w := new(big.Int).Abs(v)
	for w.Sign() > 0 {
		words = append(words, new(big.Int).And(w, new(big.Int).SetUint64(most)).Uint64())
		w.Rsh(w, 64)
	}
	return nat.Of(words...)
}

// whole is the Int of a number.
func whole(v *big.Int) integer.Int {
	return integer.New(v.Sign() < 0, natural(v))
}

// of is the Rat of a fraction.
func of(v *big.Rat) rat.Rat {
	a, _ := rat.New(whole(v.Num()), whole(v.Denom()))
	return a
}

// size is the number of a Nat, by its words.
func size(n nat.Nat) *big.Int {
	v := new(big.Int)
	for _, x := range slices.Backward(n.Words()) {
		v.Lsh(v, 64).Or(v, new(big.Int).SetUint64(x))
	}
	return v
}

// is tells whether a is v. The parts of v have no common divisor, as math/big
// has them.
func is(a rat.Rat, v *big.Rat) bool {
	num := size(a.Num().Abs())
	if a.Num().Below() {
		num.Neg(num)
	}
	return num.Cmp(v.Num()) == 0 && size(a.Den()).Cmp(v.Denom()) == 0 && a.IsInt() == v.IsInt()
}

// fraction is that of a text, which need not be in lowest terms.
func fraction(s string) *big.Rat {
	v, ok := new(big.Rat).SetString(s)
	if !ok {
		panic(s)
	}
	return v
}

// over is num by den.
func over(num, den *big.Int) *big.Rat {
	return new(big.Rat).SetFrac(num, den)
}

// opposite is -v.
func opposite(v *big.Rat) *big.Rat {
	return new(big.Rat).Neg(v)
}

// power is x to the k.
func power(x int64, k int) *big.Int {
	return new(big.Int).Exp(big.NewInt(x), big.NewInt(int64(k)), nil)
}

// plus is v + x.
func plus(v *big.Int, x int64) *big.Int {
	return new(big.Int).Add(v, big.NewInt(x))
}

// least and greatest are those of the numbers of so many bytes.
func least(bytes int) *big.Int {
	return power(256, bytes-1)
}

func greatest(bytes int) *big.Int {
	return plus(power(256, bytes), -1)
}

// apart is num by den, or by the next number from den on with which num has
// nothing in common.
func apart(num, den *big.Int) *big.Rat {
	for new(big.Int).GCD(nil, nil, num, den).Cmp(big.NewInt(1)) != 0 {
		den = plus(den, 1)
	}
	return over(num, den)
}

// small are all fractions of parts up to these.
func small(num, den int64) []*big.Rat {
	var vs []*big.Rat
	for p := -num; p <= num; p++ {
		for q := int64(1); q <= den; q++ {
			vs = append(vs, big.NewRat(p, q))
		}
	}
	return vs
}

// short is a text, or how it begins and ends, if it is long.
func short(s string) string {
	if len(s) <= 80 {
		return s
	}
	return s[:40] + ".." + s[len(s)-40:]
}

// told holds an error to its number and to its place, of which there is none
// if where is empty.
func told(t *testing.T, call string, err error, number api.Errno, where string, at int) {
	t.Helper()
	word, k, placed := api.Place(err)
	if api.Number(err) != number || !errors.Is(err, number) {
		t.Errorf("%s: %v; want error %d", short(call), err, number)
	}
	if placed != (where != "") || word != where || k != at {
		t.Errorf("%s: %d at %q %d, %t; want %q %d", short(call), api.Number(err), word, k, placed, where, at)
	}
}

// part is that of a number: how many bytes it has, and they.
func part(v *big.Int) []byte {
	b := new(big.Int).Abs(v).Bytes()
	return append([]byte{byte(len(b))}, b...)
}

// form is a fraction's, whose parts are not too long.
func form(v *big.Rat) []byte {
	var first byte
	switch {
	case v.Sign() == 0:
		return []byte{0}
	case v.IsInt() && v.Sign() > 0:
		first = 1
	case v.IsInt():
		first = 2
	case v.Sign() > 0:
		first = 3
	default:
		first = 4
	}
	b := []byte{first}
	if !v.IsInt() {
		b = append(b, part(v.Denom())...)
	}
	return append(b, part(v.Num())...)
}

// answer is what should come of some bytes, or of a text: a fraction and how
// many bytes it has, or, if there is none, an error and its place.
type answer struct {
	v     *big.Rat
	size  int
	err   api.Errno
	where string
	at    int
}

// none is the answer of an error.
func none(err api.Errno, where string, at int) answer {
	return answer{err: err, where: where, at: at}
}

// decoded is what the document asks of some bytes, step by step.
func decoded(b []byte) answer {
	switch {
	case len(b) == 0:
		return none(api.ErrShort, "", 0)
	case b[0] > 4:
		return none(api.ErrCode, "", 0)
	case b[0] == 0:
		return answer{v: new(big.Rat), size: 1}
	}
	words := []string{"divisor", "number"}
	if b[0] < 3 {
		words = words[1:]
	}
	parts := map[string]*big.Int{}
	at := 1
	for _, word := range words {
		if len(b) == at || len(b) < at+1+int(b[at]) {
			return none(api.ErrShort, word, at)
		}
		digits := b[at+1 : at+1+int(b[at])]
		if len(digits) == 0 || digits[0] == 0 {
			return none(api.ErrCode, word, at)
		}
		parts[word] = new(big.Int).SetBytes(digits)
		at += 1 + len(digits)
	}
	num, den := parts["number"], parts["divisor"]
	if b[0]%2 == 0 {
		num.Neg(num)
	}
	if den == nil {
		return answer{v: new(big.Rat).SetInt(num), size: at}
	}
	v := over(num, den)
	if v.IsInt() || v.Denom().Cmp(den) != 0 {
		return none(api.ErrCode, "", 0)
	}
	return answer{v: v, size: at}
}

// holdDecode holds Decode to an answer, and to leave the bytes as they are.
func holdDecode(t *testing.T, b []byte, want answer) {
	t.Helper()
	before := bytes.Clone(b)
	a, n, err := pack.Decode(b)
	if !bytes.Equal(b, before) {
		t.Fatalf("Decode(%x) has changed them to %x", before, b)
	}
	if want.v == nil {
		told(t, "Decode of bytes", err, want.err, want.where, want.at)
		if n != 0 || !is(a, new(big.Rat)) || t.Failed() {
			t.Fatalf("Decode(%x) = %s, %d, %v", b, pack.Text(a), n, err)
		}
		return
	}
	if !is(a, want.v) || n != want.size || err != nil {
		t.Fatalf("Decode(%x) = %s, %d, %v; want %s, %d", b, pack.Text(a), n, err, want.v, want.size)
	}
}

// holdEncode has the form of a fraction told, and read again.
func holdEncode(t *testing.T, v *big.Rat) {
	t.Helper()
	a, want := of(v), form(v)
	b, err := pack.Encode(a)
	if !bytes.Equal(b, want) || err != nil {
		t.Fatalf("Encode(%s) = %x, %v; want %x", short(v.RatString()), b, err, want)
	}
	if !is(a, v) {
		t.Fatalf("Encode(%s) has changed it", short(v.RatString()))
	}
	holdDecode(t, b, answer{v: v, size: len(want)})
}

// edges are fractions of both signs whose parts have from one byte to Most,
// each part the least and the greatest of its length, and whole numbers.
func edges() []*big.Rat {
	var vs []*big.Rat
	for _, k := range []int{1, 2, 3, 7, 8, 9, 15, 16, 17, 127, 128, pack.Most - 1, pack.Most} {
		for _, num := range []*big.Int{least(k), greatest(k)} {
			vs = append(vs, over(num, big.NewInt(1)))
			for _, m := range []int{1, 2, 8, 9, 128, pack.Most - 1, pack.Most} {
				vs = append(vs, apart(num, plus(least(m), 1)), apart(num, plus(greatest(m), -2)))
			}
		}
	}
	for _, v := range slices.Clone(vs) {
		vs = append(vs, opposite(v))
	}
	return vs
}

func TestP91Examples(t *testing.T) {
	for _, x := range []struct {
		a    string
		form []byte
	}{
		{"0", []byte{0}},
		{"1", []byte{1, 1, 1}},
		{"-1", []byte{2, 1, 1}},
		{"2", []byte{1, 1, 2}},
		{"255", []byte{1, 1, 255}},
		{"-255", []byte{2, 1, 255}},
		{"256", []byte{1, 2, 1, 0}},
		{"-256", []byte{2, 2, 1, 0}},
		{"65535", []byte{1, 2, 255, 255}},
		{"-65536", []byte{2, 3, 1, 0, 0}},
		{"18446744073709551615", []byte{1, 8, 255, 255, 255, 255, 255, 255, 255, 255}},
		{"18446744073709551616", []byte{1, 9, 1, 0, 0, 0, 0, 0, 0, 0, 0}},
		{"-18446744073709551617", []byte{2, 9, 1, 0, 0, 0, 0, 0, 0, 0, 1}},
		{"1/2", []byte{3, 1, 2, 1, 1}},
		{"-1/2", []byte{4, 1, 2, 1, 1}},
		{"3/2", []byte{3, 1, 2, 1, 3}},
		{"-3/2", []byte{4, 1, 2, 1, 3}},
		{"2/3", []byte{3, 1, 3, 1, 2}},
		{"-1/255", []byte{4, 1, 255, 1, 1}},
		{"1/256", []byte{3, 2, 1, 0, 1, 1}},
		{"257/256", []byte{3, 2, 1, 0, 2, 1, 1}},
		{"-65536/257", []byte{4, 2, 1, 1, 3, 1, 0, 0}},
		{"6/4", []byte{3, 1, 2, 1, 3}},
		{"-6/3", []byte{2, 1, 2}},
		{"0/7", []byte{0}},
	} {
		b, err := pack.Encode(of(fraction(x.a)))
		if !bytes.Equal(b, x.form) || err != nil {
			t.Errorf("Encode(%s) = %d, %v; want %d", x.a, b, err, x.form)
		}
	}
	if b, err := pack.Encode(rat.Rat{}); !bytes.Equal(b, []byte{0}) || err != nil {
		t.Errorf("Encode of a zero Rat = %d, %v", b, err)
	}
	if pack.Most != 255 {
		t.Errorf("Most = %d", pack.Most)
	}
}

func TestP91SmallParts(t *testing.T) {
	for _, v := range small(600, 40) {
		holdEncode(t, v)
	}
	for _, v := range small(20, 600) {
		holdEncode(t, v)
	}
}

func TestP91Edges(t *testing.T) {
	for _, v := range edges() {
		holdEncode(t, v)
	}
}

func TestP91EachLength(t *testing.T) {
	for k := 1; k <= pack.Most; k++ {
		holdEncode(t, over(least(k), big.NewInt(1)))
		holdEncode(t, over(new(big.Int).Neg(greatest(k)), big.NewInt(1)))
		holdEncode(t, over(big.NewInt(-1), greatest(k)))
		holdEncode(t, over(big.NewInt(1), plus(least(k), 1)))
		holdEncode(t, apart(greatest(k), big.NewInt(2)))
	}
}

// holdTooLong holds Encode of a fraction, and of its opposite, to ErrBig.
func holdTooLong(t *testing.T, v *big.Rat, where string, at int) {
	t.Helper()
	for _, w := range []*big.Rat{v, opposite(v)} {
		a := of(w)
		b, err := pack.Encode(a)
		told(t, "Encode of "+w.RatString(), err, api.ErrBig, where, at)
		if len(b) != 0 || !is(a, w) {
			t.Errorf("Encode(%s) = %x", short(w.RatString()), b)
		}
	}
}

func TestP91TooLong(t *testing.T) {
	one := big.NewInt(1)
	for _, k := range []int{pack.Most + 1, pack.Most + 2, 264, 511, 512, 513, 1000, 5000} {
		for _, long := range []*big.Int{least(k), greatest(k)} {
			holdTooLong(t, over(long, one), "number", k)
			holdTooLong(t, apart(long, big.NewInt(2)), "number", k)
			holdTooLong(t, apart(long, least(pack.Most)), "number", k)
			holdTooLong(t, apart(one, long), "divisor", k)
			holdTooLong(t, over(plus(long, 1), long), "divisor", k)
		}
		holdTooLong(t, apart(greatest(pack.Most), least(k)), "divisor", k)
	}
	if _, err := pack.Encode(of(over(least(256), one))); api.Number(err) != 3 {
		t.Errorf("ErrBig is %d; want 3", api.Number(err))
	}
}

// With both parts too long, the divisor's length is told, be it the greater one
// or not.
func TestP91BothTooLong(t *testing.T) {
	for _, k := range []int{pack.Most + 1, pack.Most + 2, 300, 700} {
		for _, m := range []int{pack.Most + 1, pack.Most + 3, 400, 600} {
			holdTooLong(t, apart(greatest(k), plus(least(m), 1)), "divisor", m)
			holdTooLong(t, apart(least(k), plus(least(m), 1)), "divisor", m)
		}
	}
}

func TestP91SharesNothing(t *testing.T) {
	for _, s := range []string{"0", "7", "-300", "70000/3", "-1/300"} {
		v := fraction(s)
		a := of(v)
		b, _ := pack.Encode(a)
		// What stands behind b in its memory is written to, too.
		full := b[:cap(b)]
		for k := range full {
			full[k] = 99
		}
		again, err := pack.Encode(a)
		if !bytes.Equal(again, form(v)) || err != nil || !is(a, v) {
			t.Errorf("Encode(%s) = %d, %v after what it told was changed", s, again, err)
		}
	}
}

func TestP92Examples(t *testing.T) {
	for _, x := range []struct {
		b    []byte
		a    string
		size int
	}{
		{[]byte{0}, "0", 1},
		{[]byte{0, 0}, "0", 1},
		{[]byte{0, 5, 1}, "0", 1},
		{[]byte{1, 1, 1}, "1", 3},
		{[]byte{2, 1, 1}, "-1", 3},
		{[]byte{1, 1, 255, 0}, "255", 3},
		{[]byte{1, 2, 1, 0}, "256", 4},
		{[]byte{2, 2, 1, 0, 1}, "-256", 4},
		{[]byte{1, 9, 1, 0, 0, 0, 0, 0, 0, 0, 2}, "18446744073709551618", 11},
		{[]byte{3, 1, 2, 1, 1}, "1/2", 5},
		{[]byte{4, 1, 2, 1, 3}, "-3/2", 5},
		{[]byte{4, 1, 2, 1, 3, 4, 1, 2, 1, 5}, "-3/2", 5},
		{[]byte{3, 1, 3, 1, 2}, "2/3", 5},
		{[]byte{3, 2, 1, 0, 1, 1, 0}, "1/256", 6},
		{[]byte{4, 2, 1, 1, 3, 1, 0, 0, 255}, "-65536/257", 8},
	} {
		holdDecode(t, x.b, answer{v: fraction(x.a), size: x.size})
	}
}

func TestP92NoByte(t *testing.T) {
	holdDecode(t, nil, none(api.ErrShort, "", 0))
	holdDecode(t, []byte{}, none(api.ErrShort, "", 0))
	holdDecode(t, []byte{1, 1, 1}[:0], none(api.ErrShort, "", 0))
	if _, _, err := pack.Decode(nil); api.Number(err) != 90 {
		t.Errorf("ErrShort is %d; want 90", api.Number(err))
	}
}

func TestP92FirstBytes(t *testing.T) {
	// The part of 259, and that of 258 behind it.
	tail := []byte{2, 1, 3, 2, 1, 2}
	for k := range 256 {
		alone := []byte{byte(k)}
		b := append([]byte{byte(k)}, tail...)
		switch k {
		case 0:
			holdDecode(t, alone, answer{v: new(big.Rat), size: 1})
			holdDecode(t, b, answer{v: new(big.Rat), size: 1})
		case 1, 2:
			holdDecode(t, alone, none(api.ErrShort, "number", 1))
			holdDecode(t, b, answer{v: big.NewRat(int64(259*(3-2*k)), 1), size: 4})
		case 3, 4:
			holdDecode(t, alone, none(api.ErrShort, "divisor", 1))
			holdDecode(t, b, answer{v: big.NewRat(int64(258*(7-2*k)), 259), size: 7})
		default:
			holdDecode(t, alone, none(api.ErrCode, "", 0))
			holdDecode(t, b, none(api.ErrCode, "", 0))
		}
	}
	if _, _, err := pack.Decode([]byte{5}); api.Number(err) != 91 {
		t.Errorf("ErrCode is %d; want 91", api.Number(err))
	}
}

func TestP92WrongParts(t *testing.T) {
	for _, x := range []struct {
		b     []byte
		err   api.Errno
		where string
		at    int
	}{
		// Cut off: ahead of the length, behind it, and within.
		{[]byte{1}, api.ErrShort, "number", 1},
		{[]byte{2, 1}, api.ErrShort, "number", 1},
		{[]byte{1, 2, 1}, api.ErrShort, "number", 1},
		{[]byte{1, 255}, api.ErrShort, "number", 1},
		{[]byte{3}, api.ErrShort, "divisor", 1},
		{[]byte{4, 1}, api.ErrShort, "divisor", 1},
		{[]byte{3, 2, 1}, api.ErrShort, "divisor", 1},
		{[]byte{3, 1, 2}, api.ErrShort, "number", 3},
		{[]byte{4, 1, 2, 1}, api.ErrShort, "number", 3},
		{[]byte{3, 1, 2, 2, 1}, api.ErrShort, "number", 3},
		{[]byte{3, 2, 1, 0, 2, 1}, api.ErrShort, "number", 4},
		// Of no bytes.
		{[]byte{1, 0}, api.ErrCode, "number", 1},
		{[]byte{2, 0, 1, 1}, api.ErrCode, "number", 1},
		{[]byte{3, 0}, api.ErrCode, "divisor", 1},
		{[]byte{4, 0, 1, 1}, api.ErrCode, "divisor", 1},
		{[]byte{3, 1, 2, 0}, api.ErrCode, "number", 3},
		{[]byte{4, 3, 1, 0, 0, 0, 7}, api.ErrCode, "number", 5},
		// Not plain.
		{[]byte{1, 1, 0}, api.ErrCode, "number", 1},
		{[]byte{2, 2, 0, 1}, api.ErrCode, "number", 1},
		{[]byte{1, 3, 0, 0, 0}, api.ErrCode, "number", 1},
		{[]byte{3, 1, 0, 1, 1}, api.ErrCode, "divisor", 1},
		{[]byte{4, 2, 0, 2, 1, 3}, api.ErrCode, "divisor", 1},
		{[]byte{3, 1, 2, 1, 0}, api.ErrCode, "number", 3},
		{[]byte{4, 2, 1, 0, 2, 0, 3}, api.ErrCode, "number", 4},
		// A divisor of 1, and parts with a common divisor.
		{[]byte{3, 1, 1, 1, 4}, api.ErrCode, "", 0},
		{[]byte{4, 1, 1, 1, 1}, api.ErrCode, "", 0},
		{[]byte{4, 1, 1, 2, 1, 0, 9}, api.ErrCode, "", 0},
		{[]byte{3, 1, 2, 1, 4}, api.ErrCode, "", 0},
		{[]byte{4, 1, 4, 1, 2}, api.ErrCode, "", 0},
		{[]byte{3, 1, 6, 1, 4}, api.ErrCode, "", 0},
		{[]byte{3, 1, 9, 1, 9}, api.ErrCode, "", 0},
		{[]byte{4, 2, 1, 0, 2, 1, 0, 1}, api.ErrCode, "", 0},
	} {
		holdDecode(t, x.b, none(x.err, x.where, x.at))
	}
}

// Of several errors the first one is told, as the document has them.
func TestP92OrderOfErrors(t *testing.T) {
	for _, x := range []struct {
		b     []byte
		err   api.Errno
		where string
		at    int
	}{
		{[]byte{5, 0}, api.ErrCode, "", 0},
		{[]byte{255}, api.ErrCode, "", 0},
		// Cut off, and not plain as far as it goes.
		{[]byte{1, 3, 0, 1}, api.ErrShort, "number", 1},
		{[]byte{3, 2, 0}, api.ErrShort, "divisor", 1},
		{[]byte{4, 1, 2, 2, 0}, api.ErrShort, "number", 3},
		// Something wrong with either part.
		{[]byte{3, 0, 0}, api.ErrCode, "divisor", 1},
		{[]byte{3, 1, 0, 1, 0}, api.ErrCode, "divisor", 1},
		{[]byte{4, 1, 0}, api.ErrCode, "divisor", 1},
		{[]byte{3, 2, 0, 1, 5, 1}, api.ErrCode, "divisor", 1},
		{[]byte{4, 9, 1, 0, 0}, api.ErrShort, "divisor", 1},
		// A divisor of 1 ahead of a number that is wrong.
		{[]byte{3, 1, 1}, api.ErrShort, "number", 3},
		{[]byte{3, 1, 1, 2, 1}, api.ErrShort, "number", 3},
		{[]byte{4, 1, 1, 0}, api.ErrCode, "number", 3},
		{[]byte{4, 1, 1, 1, 0}, api.ErrCode, "number", 3},
		// A number that would be 0, with which every divisor has itself in common.
		{[]byte{4, 1, 7, 1, 0}, api.ErrCode, "number", 3},
		{[]byte{3, 1, 7, 0, 7}, api.ErrCode, "number", 3},
	} {
		holdDecode(t, x.b, none(x.err, x.where, x.at))
	}
}

// lists calls hold with each list of up to so many bytes that are among some
// few.
func lists(most int, few []byte, hold func(b []byte)) {
	b := []byte{}
	var longer func()
	longer = func() {
		hold(b)
		if len(b) == most {
			return
		}
		for _, x := range few {
			b = append(b, x)
			longer()
			b = b[:len(b)-1]
		}
	}
	longer()
}

func TestP92AllOfFewBytes(t *testing.T) {
	all := make([]byte, 256)
	for k := range all {
		all[k] = byte(k)
	}
	hold := func(b []byte) { holdDecode(t, b, decoded(b)) }
	lists(2, all, hold)
	lists(7, []byte{0, 1, 2, 3, 4, 255}, hold)
	lists(8, []byte{1, 2, 3, 6}, hold)
}

// Each form is cut off at each place: ahead of its first byte, of a length, and
// within each part.
func TestP92CutOff(t *testing.T) {
	vs := small(9, 7)
	for _, s := range []string{"256", "-65536/257", "70000/3", "-3/70000", "123456789012345678901/98765432109876543210987"} {
		vs = append(vs, fraction(s))
	}
	vs = append(vs, apart(greatest(pack.Most), plus(least(pack.Most), 1)), over(greatest(pack.Most), big.NewInt(-1)))
	for _, v := range vs {
		b := form(v)
		for k := range b {
			want := none(api.ErrShort, "number", 1)
			switch {
			case k == 0:
				want = none(api.ErrShort, "", 0)
			case !v.IsInt() && k < 2+int(b[1]):
				want = none(api.ErrShort, "divisor", 1)
			case !v.IsInt():
				want = none(api.ErrShort, "number", 2+int(b[1]))
			}
			// What stands behind a list in its memory is not part of it.
			holdDecode(t, b[:k], want)
			holdDecode(t, bytes.Clone(b[:k]), want)
		}
	}
}

func TestP92BytesBehind(t *testing.T) {
	for _, v := range append(small(9, 7), edges()...) {
		b := form(v)
		want := answer{v: v, size: len(b)}
		for _, x := range []byte{0, 1, 4, 255} {
			holdDecode(t, append(bytes.Clone(b), x), want)
			holdDecode(t, append(bytes.Clone(b), bytes.Repeat([]byte{x}, 300)...), want)
		}
	}
}

// Each byte of a form is changed to each other one.
func TestP92EachByteAtAnyPlace(t *testing.T) {
	for _, s := range []string{"0", "1", "-258", "3/2", "-259/258", "1/65536", "-66051/4"} {
		b := append(form(fraction(s)), 1, 2, 3, 4, 5)
		for k, kept := range b {
			for x := range 256 {
				b[k] = byte(x)
				holdDecode(t, b, decoded(b))
			}
			b[k] = kept
		}
	}
}

// Long parts that have something in common, however it lies in them.
func TestP92LongPartsInCommon(t *testing.T) {
	for _, k := range []int{1, 2, 8, 9, 100, 127} {
		for _, v := range []*big.Rat{big.NewRat(3, 2), big.NewRat(-2, 3), apart(greatest(k), plus(least(k), 1))} {
			for _, x := range []*big.Int{big.NewInt(2), big.NewInt(3), big.NewInt(255), least(k), greatest(k), greatest(100)} {
				num, den := new(big.Int).Mul(v.Num(), x), new(big.Int).Mul(v.Denom(), x)
				if x.Cmp(big.NewInt(1)) == 0 {
					continue
				}
				first := byte(3)
				if num.Sign() < 0 {
					first = 4
				}
				b := append([]byte{first}, part(den)...)
				holdDecode(t, append(b, part(num)...), none(api.ErrCode, "", 0))
			}
		}
	}
}

func TestP92SharesNothing(t *testing.T) {
	for _, s := range []string{"7", "-300", "70000/3", "-1/300", "18446744073709551616/18446744073709551617"} {
		v := fraction(s)
		b := form(v)
		a, _, err := pack.Decode(b)
		for k := range b {
			b[k] = 99
		}
		if !is(a, v) || err != nil {
			t.Errorf("%s has become %s with the bytes that it was read from", s, pack.Text(a))
		}
	}
}

// readable is what the document asks of a text.
func readable(s string) answer {
	num := regexp.MustCompile(`\A(0|-?[1-9][0-9]*)\z`)
	den := regexp.MustCompile(`\A[1-9][0-9]*\z`)
	head, tail, broken := strings.Cut(s, "/")
	switch {
	case !num.MatchString(head):
		return none(api.ErrCode, "number", 0)
	case broken && !den.MatchString(tail):
		return none(api.ErrCode, "divisor", len(head)+1)
	}
	if v := fraction(s); v.RatString() == s {
		return answer{v: v}
	}
	return none(api.ErrCode, "", 0)
}

// holdRead holds Read to an answer.
func holdRead(t *testing.T, s string, want answer) {
	t.Helper()
	a, err := pack.Read(s)
	if want.v == nil {
		told(t, "Read of a text", err, want.err, want.where, want.at)
		if !is(a, new(big.Rat)) || t.Failed() {
			t.Fatalf("Read(%q) = %s, %v", short(s), short(pack.Text(a)), err)
		}
		return
	}
	if !is(a, want.v) || err != nil {
		t.Fatalf("Read(%q) = %s, %v", short(s), short(pack.Text(a)), err)
	}
}

// holdText has the text of a fraction told, and read again.
func holdText(t *testing.T, v *big.Rat) {
	t.Helper()
	a, want := of(v), v.RatString()
	if s := pack.Text(a); s != want {
		t.Fatalf("Text = %s; want %s", short(s), short(want))
	}
	if !is(a, v) {
		t.Fatalf("Text has changed %s", short(want))
	}
	holdRead(t, want, answer{v: v})
}

func TestP93Examples(t *testing.T) {
	for _, x := range []struct{ a, text string }{
		{"0", "0"},
		{"0/5", "0"},
		{"1", "1"},
		{"-1", "-1"},
		{"10", "10"},
		{"-12", "-12"},
		{"8/2", "4"},
		{"-8/2", "-4"},
		{"1/2", "1/2"},
		{"-1/2", "-1/2"},
		{"3/2", "3/2"},
		{"-3/2", "-3/2"},
		{"-6/4", "-3/2"},
		{"10/3", "10/3"},
		{"3/10", "3/10"},
		{"-100/101", "-100/101"},
		{"18446744073709551616/18446744073709551617", "18446744073709551616/18446744073709551617"},
		{"-1/100000000000000000000", "-1/100000000000000000000"},
	} {
		if s := pack.Text(of(fraction(x.a))); s != x.text {
			t.Errorf("Text(%s) = %s; want %s", x.a, s, x.text)
		}
		holdRead(t, x.text, answer{v: fraction(x.a)})
	}
	if s := pack.Text(rat.Rat{}); s != "0" {
		t.Errorf("Text of a zero Rat = %s", s)
	}
}

func TestP93WrongTexts(t *testing.T) {
	for _, x := range []struct {
		s, where string
		at       int
	}{
		// The number is none's.
		{"", "number", 0},
		{"-", "number", 0},
		{"x", "number", 0},
		{"+1", "number", 0},
		{"--1", "number", 0},
		{"-0", "number", 0},
		{"00", "number", 0},
		{"007", "number", 0},
		{"-07", "number", 0},
		{" 1", "number", 0},
		{"1 ", "number", 0},
		{"1.5", "number", 0},
		{"1e3", "number", 0},
		{"0x1", "number", 0},
		{"1_000", "number", 0},
		{"1\\2", "number", 0},
		{"\u0661", "number", 0},
		{"\u22121", "number", 0},
		{"1\u20442", "number", 0},
		{"1\x00", "number", 0},
		{"\xff", "number", 0},
		// The number, with a / behind it, be the divisor what it will.
		{"/", "number", 0},
		{"/2", "number", 0},
		{"//", "number", 0},
		{"-/2", "number", 0},
		{"-0/2", "number", 0},
		{"+1/2", "number", 0},
		{"03/2", "number", 0},
		{"1 /2", "number", 0},
		{"x/1", "number", 0},
		{"x/x", "number", 0},
		{"x/0", "number", 0},
		{"x/", "number", 0},
		{"/1/2", "number", 0},
		// The divisor.
		{"1/", "divisor", 2},
		{"0/", "divisor", 2},
		{"-1/", "divisor", 3},
		{"1/x", "divisor", 2},
		{"1/0", "divisor", 2},
		{"0/0", "divisor", 2},
		{"-30/0", "divisor", 4},
		{"1/-2", "divisor", 2},
		{"-1/-2", "divisor", 3},
		{"1/+2", "divisor", 2},
		{"1/-0", "divisor", 2},
		{"1/00", "divisor", 2},
		{"1/02", "divisor", 2},
		{"4/02", "divisor", 2},
		{"1/01", "divisor", 2},
		{"12/ 5", "divisor", 3},
		{"12/5 ", "divisor", 3},
		{"1234567/5x", "divisor", 8},
		{"1//2", "divisor", 2},
		{"1/2/", "divisor", 2},
		{"1/2/3", "divisor", 2},
		{"12/5/7", "divisor", 3},
		{"4/2/1", "divisor", 2},
		{"-123//", "divisor", 5},
		{"1/2\u0663", "divisor", 2},
		// Both are numbers' texts, but not a fraction's.
		{"4/2", "", 0},
		{"2/4", "", 0},
		{"-6/4", "", 0},
		{"6/9", "", 0},
		{"7/7", "", 0},
		{"-7/7", "", 0},
		{"1/1", "", 0},
		{"-5/1", "", 0},
		{"0/1", "", 0},
		{"0/2", "", 0},
		{"0/10", "", 0},
		{"36893488147419103232/18446744073709551616", "", 0},
	} {
		holdRead(t, x.s, none(api.ErrCode, x.where, x.at))
	}
}

func TestP93SmallParts(t *testing.T) {
	for _, v := range append(small(120, 40), small(20, 300)...) {
		holdText(t, v)
	}
}

func TestP93Edges(t *testing.T) {
	for _, v := range edges() {
		holdText(t, v)
	}
}

func TestP93AllOfFewBytes(t *testing.T) {
	hold := func(b []byte) { holdRead(t, string(b), readable(string(b))) }
	lists(6, []byte("0126-/"), hold)
	lists(5, []byte("013+-/ x"), hold)
	lists(7, []byte("24/"), hold)
}

func TestP93EachByteAtAnyPlace(t *testing.T) {
	for _, s := range []string{"0", "-7", "3/2", "-120/457", "18446744073709551616/18446744073709551617"} {
		for k := range len(s) {
			for x := range 256 {
				for _, text := range []string{
					s[:k] + string([]byte{byte(x)}) + s[k:],
					s[:k] + string([]byte{byte(x)}) + s[k+1:],
				} {
					holdRead(t, text, readable(text))
				}
			}
		}
	}
}

// A fraction whose parts are too long for bytes has a text all the same.
func TestP93HasNoLimit(t *testing.T) {
	for _, k := range []int{pack.Most + 1, 1000} {
		v := apart(greatest(k), plus(least(k), 1))
		holdText(t, v)
		holdText(t, opposite(v))
		holdText(t, over(least(k), big.NewInt(1)))
		num, den := v.Num().String(), v.Denom().String()
		holdRead(t, num+"/", none(api.ErrCode, "divisor", len(num)+1))
		holdRead(t, num+"/0"+den, none(api.ErrCode, "divisor", len(num)+1))
		holdRead(t, "-"+num+"/"+den+"/2", none(api.ErrCode, "divisor", len(num)+2))
		holdRead(t, num+"/"+num, none(api.ErrCode, "", 0))
		holdRead(t, num+"/1", none(api.ErrCode, "", 0))
		holdRead(t, "0"+num+"/"+den, none(api.ErrCode, "number", 0))
	}
}

func TestP93AnswersAgain(t *testing.T) {
	for _, s := range []string{"0", "-3/2", "123456789012345678901234567890/7", "4/2", "1/x", "x/1"} {
		want := readable(s)
		for range 3 {
			holdRead(t, s, want)
			if want.v != nil {
				holdText(t, want.v)
			}
		}
	}
}
