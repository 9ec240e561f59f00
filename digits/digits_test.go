package digits_test

import (
	"bytes"
	"math/big"
	"slices"
	"strings"
	"testing"

	"actuary/api"
	"actuary/digits"
	"actuary/nat"
)

const (
	half = 1 << 63
	most = 1<<64 - 1
)

// list is some words, the lowest first, as nat.Nat has them.
type list = []uint64

// numbers are those of up to so many words that are among some few: 0 too, and
// every way for noughts to stand below and between.
func numbers(words int, few list) []nat.Nat {
	ns := []nat.Nat{nat.Of()}
	lists := []list{nil}
	for range words {
		var longer []list
		for _, low := range lists {
			for _, x := range few {
				next := append(slices.Clone(low), x)
				longer = append(longer, next)
				if x != 0 {
					ns = append(ns, nat.Of(next...))
				}
			}
		}
		lists = longer
	}
	return ns
}

// value is the number of a Nat, by its words.
func value(n nat.Nat) *big.Int {
	v := new(big.Int)
	for _, x := range slices.Backward(n.Words()) {
		v.Lsh(v, 64).Or(v, new(big.Int).SetUint64(x))
	}
	return v
}

// natural is the Nat of a number.
func natural(v *big.Int) nat.Nat {
	var words list
	w := new(big.Int).Set(v)
	for w.Sign() > 0 {
		words = append(words, new(big.Int).And(w, new(big.Int).SetUint64(most)).Uint64())
		w.Rsh(w, 64)
	}
	return nat.Of(words...)
}

// power is x to the k.
func power(x int64, k int) *big.Int {
	return new(big.Int).Exp(big.NewInt(x), big.NewInt(int64(k)), nil)
}

// plus is v + x.
func plus(v *big.Int, x int64) *big.Int {
	return new(big.Int).Add(v, big.NewInt(x))
}

// is tells whether n is v, and in good form: the last of its words is not 0.
func is(n nat.Nat, v *big.Int) bool {
	return value(n).Cmp(v) == 0 && n.Len() == (v.BitLen()+63)/64
}

// has tells whether n has just these words.
func has(n nat.Nat, words list) bool {
	return slices.Equal(n.Words(), words) && n.Len() == len(words) && n.Zero() == (len(words) == 0)
}

// short is a text, or how it begins and ends, if it is long.
func short(s string) string {
	if len(s) <= 80 {
		return s
	}
	return s[:40] + ".." + s[len(s)-40:]
}

// holdBytes has all that is asked of a number's bytes answered as by math/big,
// and the bytes read again.
func holdBytes(t *testing.T, n nat.Nat) {
	t.Helper()
	v := value(n)
	want := v.Bytes()
	b := digits.Bytes(n)
	if !bytes.Equal(b, want) {
		t.Errorf("Bytes(%x) = %x", v, b)
	}
	if size := digits.Size(n); size != len(want) {
		t.Errorf("Size(%x) = %d; want %d", v, size, len(want))
	}
	if !digits.Plain(want) {
		t.Errorf("Plain(%x) = false", want)
	}
	read, ok := digits.Parse(want)
	if !ok || !is(read, v) {
		t.Errorf("Parse(%x) = %d, %t", v, read.Words(), ok)
	}
	if again := digits.Bytes(read); !bytes.Equal(again, want) {
		t.Errorf("%x was read, and %x is told", want, again)
	}
	if !bytes.Equal(want, v.Bytes()) || !is(n, v) {
		t.Fatalf("%x has become %x, and its bytes %x", v, value(n), want)
	}
}

// holdText has a number's text answered as by math/big, and read again.
func holdText(t *testing.T, n nat.Nat) {
	t.Helper()
	v := value(n)
	want := v.String()
	if s := digits.Text(n); s != want {
		t.Errorf("Text(%s) = %s", short(want), short(s))
	}
	read, ok := digits.Read(want)
	if !ok || !is(read, v) {
		t.Errorf("Read(%s) = %s, %t", short(want), short(value(read).String()), ok)
	}
	if again := digits.Text(read); again != want {
		t.Errorf("%s was read, and %s is told", short(want), short(again))
	}
	if !is(n, v) {
		t.Fatalf("%s has become %s", short(want), short(value(n).String()))
	}
}

// few are the words at which bytes and digits turn, and some within.
var few = list{0, 1, 255, 256, 0x0123456789abcdef, 10_000_000_000_000_000_000, half, most}

// long are the numbers of up to so many bytes, each byte another one than that
// beside it: all lengths, whole words and others.
func long(size int) []nat.Nat {
	v, ns := new(big.Int), []nat.Nat{nat.Of()}
	for k := range size {
		v.Lsh(v, 8).Or(v, big.NewInt(int64(k*37%255+1)))
		ns = append(ns, natural(v))
	}
	return ns
}

// around are the powers of x up to the k, and their neighbours.
func around(x int64, k int) []nat.Nat {
	var ns []nat.Nat
	for i := range k + 1 {
		v := power(x, i)
		ns = append(ns, natural(plus(v, -1)), natural(v), natural(plus(v, 1)))
	}
	return ns
}

func TestP61Examples(t *testing.T) {
	for _, c := range []struct {
		n list
		b []byte
	}{
		{nil, nil},
		{list{0}, nil},
		{list{0, 0}, nil},
		{list{1}, []byte{1}},
		{list{9}, []byte{9}},
		{list{127}, []byte{127}},
		{list{128}, []byte{128}},
		{list{255}, []byte{255}},
		{list{256}, []byte{1, 0}},
		{list{257}, []byte{1, 1}},
		{list{65535}, []byte{255, 255}},
		{list{65536}, []byte{1, 0, 0}},
		{list{0x0102030405060708}, []byte{1, 2, 3, 4, 5, 6, 7, 8}},
		{list{0x02030405060708}, []byte{2, 3, 4, 5, 6, 7, 8}},

		// one word and many, and noughts below and between
		{list{half}, []byte{128, 0, 0, 0, 0, 0, 0, 0}},
		{list{most}, []byte{255, 255, 255, 255, 255, 255, 255, 255}},
		{list{0, 1}, []byte{1, 0, 0, 0, 0, 0, 0, 0, 0}},
		{list{2, 1}, []byte{1, 0, 0, 0, 0, 0, 0, 0, 2}},
		{list{0, 256}, []byte{1, 0, 0, 0, 0, 0, 0, 0, 0, 0}},
		{list{0x090a0b0c0d0e0f10, 0x0102030405060708}, []byte{1, 2, 3, 4, 5, 6, 7, 8, 9, 10, 11, 12, 13, 14, 15, 16}},
		{list{0x090a0b0c0d0e0f10, 0x02030405060708}, []byte{2, 3, 4, 5, 6, 7, 8, 9, 10, 11, 12, 13, 14, 15, 16}},
		{list{3, 0, 5}, []byte{5, 0, 0, 0, 0, 0, 0, 0, 0, 0, 0, 0, 0, 0, 0, 0, 3}},
		{list{3, 0, 5, 0}, []byte{5, 0, 0, 0, 0, 0, 0, 0, 0, 0, 0, 0, 0, 0, 0, 0, 3}},
	} {
		n := nat.Of(c.n...)
		if b := digits.Bytes(n); !bytes.Equal(b, c.b) {
			t.Errorf("Bytes(%d) = %d; want %d", c.n, b, c.b)
		}
		if size := digits.Size(n); size != len(c.b) {
			t.Errorf("Size(%d) = %d; want %d", c.n, size, len(c.b))
		}
		if !digits.Plain(c.b) {
			t.Errorf("Plain(%d) = false", c.b)
		}
		if read, ok := digits.Parse(c.b); !ok || !has(read, n.Words()) {
			t.Errorf("Parse(%d) = %d, %t; want %d", c.b, read.Words(), ok, n.Words())
		}
	}
}

// The zero Nat is 0, which has no bytes: none and nil are read alike.
func TestP61NoBytes(t *testing.T) {
	if b := digits.Bytes(nat.Nat{}); len(b) != 0 {
		t.Errorf("Bytes of 0 = %d", b)
	}
	if size := digits.Size(nat.Nat{}); size != 0 {
		t.Errorf("Size of 0 = %d", size)
	}
	for _, b := range [][]byte{nil, {}, []byte{7, 8}[:0]} {
		if !digits.Plain(b) {
			t.Errorf("Plain of no bytes = false")
		}
		if n, ok := digits.Parse(b); !ok || !has(n, nil) {
			t.Errorf("Parse of no bytes = %d, %t", n.Words(), ok)
		}
	}
}

func TestP61BytesThatBeginWithNought(t *testing.T) {
	wrong := [][]byte{{0}, {0, 0}, {0, 1}, {0, 0, 1}, {0, 255}, {0, 0, 0, 0, 0, 0, 0, 0, 1}}
	for size := range 40 {
		wrong = append(wrong, make([]byte, size+1), append([]byte{0}, bytes.Repeat([]byte{7}, size)...))
	}
	for _, b := range wrong {
		if digits.Plain(b) {
			t.Errorf("Plain(%d) = true", b)
		}
		if n, ok := digits.Parse(b); ok || !has(n, nil) {
			t.Errorf("Parse(%d) = %d, %t; want false", b, n.Words(), ok)
		}
	}
}

// A nought elsewhere than at the beginning is a digit as others are.
func TestP61NoughtsWithin(t *testing.T) {
	for size := 1; size < 40; size++ {
		for place := 1; place <= size; place++ {
			b := bytes.Repeat([]byte{0xa5}, size)
			clear(b[place:])
			holdBytes(t, natural(new(big.Int).SetBytes(b)))
			b[size-1] = 1
			holdBytes(t, natural(new(big.Int).SetBytes(b)))
		}
	}
}

func TestP61AllOfOneAndTwoBytes(t *testing.T) {
	for x := range 1 << 16 {
		high, low := byte(x>>8), byte(x)
		b := []byte{high, low}
		plain := high != 0
		if digits.Plain(b) != plain {
			t.Errorf("Plain(%d) = %t", b, !plain)
		}
		n, ok := digits.Parse(b)
		if ok != plain || plain && !has(n, list{uint64(x)}) || !plain && !has(n, nil) {
			t.Errorf("Parse(%d) = %d, %t", b, n.Words(), ok)
		}
		holdBytes(t, nat.Of(uint64(x)))
	}
}

func TestP61OfAll(t *testing.T) {
	for _, n := range numbers(3, few) {
		holdBytes(t, n)
	}
	for _, n := range slices.Concat(around(2, 400), long(200)) {
		holdBytes(t, n)
	}
}

// The chapter has no limit: more bits than a shift or a power may have.
func TestP61HasNoLimit(t *testing.T) {
	for _, bits := range []int{api.MaxShift - 1, api.MaxShift, api.MaxShift + 1, 3*api.MaxShift + 5} {
		v := power(2, bits)
		holdBytes(t, natural(v))
		holdBytes(t, natural(plus(v, -1)))
	}
	if digits.Plain(make([]byte, 1<<20)) {
		t.Error("Plain of 2^20 noughts = true")
	}
}

// What is handed in stays, and what comes out has nothing to do with it any
// more, nor with what comes out the next time.
func TestP61SharesNothing(t *testing.T) {
	for _, words := range []list{{5}, {5, 7}, {5, 7, 9}} {
		n := nat.Of(words...)
		b := digits.Bytes(n)
		read, _ := digits.Parse(b)
		kept := slices.Clone(b)
		for k := range b {
			b[k] = 0xee
		}
		if !has(n, words) || !has(read, words) || !bytes.Equal(digits.Bytes(n), kept) {
			t.Errorf("%d has become %d and %d", words, n.Words(), read.Words())
		}
	}
}

// What stands behind the bytes that are handed in is left alone.
func TestP61LooksAtNothingBehind(t *testing.T) {
	all := []byte{1, 2, 3, 4, 5, 6, 7, 8, 9, 10, 11, 12}
	for size := range len(all) {
		want := new(big.Int).SetBytes(all[:size])
		if n, ok := digits.Parse(all[:size]); !ok || !is(n, want) {
			t.Errorf("Parse(%d) = %d, %t", all[:size], n.Words(), ok)
		}
	}
	if !bytes.Equal(all, []byte{1, 2, 3, 4, 5, 6, 7, 8, 9, 10, 11, 12}) {
		t.Errorf("what was handed in has become %d", all)
	}
}

func TestP62Examples(t *testing.T) {
	for _, c := range []struct {
		n list
		s string
	}{
		{nil, "0"},
		{list{0}, "0"},
		{list{0, 0}, "0"},
		{list{1}, "1"},
		{list{7}, "7"},
		{list{9}, "9"},
		{list{10}, "10"},
		{list{100}, "100"},
		{list{1234567890}, "1234567890"},
		{list{999_999_999_999_999_999}, "999999999999999999"},
		{list{1_000_000_000_000_000_000}, "1000000000000000000"},
		{list{9_999_999_999_999_999_999}, "9999999999999999999"},
		{list{10_000_000_000_000_000_000}, "10000000000000000000"},
		{list{10_000_000_000_000_000_001}, "10000000000000000001"},
		{list{half}, "9223372036854775808"},
		{list{most}, "18446744073709551615"},
		{list{0, 1}, "18446744073709551616"},
		{list{0, 1, 0}, "18446744073709551616"},
		{list{1, 1}, "18446744073709551617"},
		{list{most, most}, "340282366920938463463374607431768211455"},
		{list{0, 0, 1}, "340282366920938463463374607431768211456"},
		{list{0x98a224000000000, 0x4b3b4ca85a86c47a}, "100000000000000000000000000000000000000"},
		{list{0x98a223fffffffff, 0x4b3b4ca85a86c47a}, "99999999999999999999999999999999999999"},
		{list{0x4a00000000000000, 0xebfdcb54864ada83, 0x28c87cb5c89a2571}, "1000000000000000000000000000000000000000000000000000000000"},
		{list{0x8ccff196ce3f0ad2, 0x3f87a4378c37b49c, 0xaaf504e4bc1e6217, 0x13}, "123456789012345678901234567890123456789012345678901234567890"},
	} {
		n := nat.Of(c.n...)
		if s := digits.Text(n); s != c.s {
			t.Errorf("Text(%d) = %s; want %s", c.n, s, c.s)
		}
		if read, ok := digits.Read(c.s); !ok || !has(read, n.Words()) {
			t.Errorf("Read(%s) = %d, %t; want %d", c.s, read.Words(), ok, c.n)
		}
	}
}

func TestP62OfNought(t *testing.T) {
	if s := digits.Text(nat.Nat{}); s != "0" {
		t.Errorf("Text of 0 = %q", s)
	}
	if n, ok := digits.Read("0"); !ok || !has(n, nil) {
		t.Errorf("Read of 0 = %d, %t", n.Words(), ok)
	}
}

// unread fails the test, if a text is read as any number's.
func unread(t *testing.T, s string) {
	t.Helper()
	if n, ok := digits.Read(s); ok || !has(n, nil) {
		t.Errorf("Read(%q) = %d, %t; want false", s, n.Words(), ok)
	}
}

func TestP62WrongTexts(t *testing.T) {
	for _, s := range []string{
		"",
		"00", "000", "007", "01", "09", "0 ", "0.", "0a", "0-", "0\x00",
		"-0", "-1", "+1", "+0", "+", "-",
		" ", " 1", "1 ", "1 1", "\t1", "1\n", "\n", "1\r\n",
		"a", "1a", "a1", "ff", "0x1", "0X1F", "0b1", "0o7", "1h",
		"1.", ".1", "1.0", "1,000", "1_000", "_1", "1_", "1e3", "1E3", "1/2", "1/1",
		"/", ":", "1/", "1:", "\x00", "\x001", "1\x00",
		"\xff", "1\xff", "1\xb2", // not UTF-8
		"\u0661", "1\u0661", "\uff11", "\u00b2", "1\u00b2", "\u2161", // digits elsewhere
		"\ufeff1", "1\u200b", "\u22121",
		"zero", "NaN", "Inf", "nil", "<nil>",
	} {
		unread(t, s)
	}
}

func TestP62NoughtsAhead(t *testing.T) {
	for noughts := 1; noughts < 45; noughts++ {
		ahead := strings.Repeat("0", noughts)
		if noughts > 1 {
			unread(t, ahead)
		}
		for _, s := range []string{"1", "9", "10", "1234567890123456789", "18446744073709551616"} {
			unread(t, ahead+s)
		}
	}
	unread(t, strings.Repeat("0", 1<<20))
}

// Each byte that is no digit, at each place of a text of each length.
func TestP62NoDigitAtAnyPlace(t *testing.T) {
	for size := 1; size < 60; size++ {
		for place := range size {
			text := bytes.Repeat([]byte{'7'}, size)
			for x := range 256 {
				if x >= '0' && x <= '9' {
					continue
				}
				text[place] = byte(x)
				unread(t, string(text))
			}
		}
	}
}

func TestP62EachDigitAtAnyPlace(t *testing.T) {
	for size := 1; size < 60; size++ {
		for place := range size {
			for x := byte('0'); x <= '9'; x++ {
				text := bytes.Repeat([]byte{'7'}, size)
				text[place] = x
				s := string(text)
				if s[0] == '0' && size > 1 {
					unread(t, s)
					continue
				}
				v, _ := new(big.Int).SetString(s, 10)
				holdText(t, natural(v))
			}
		}
	}
}

func TestP62OfSmallNumbers(t *testing.T) {
	for x := range uint64(20_000) {
		holdText(t, nat.Of(x))
	}
}

func TestP62OfAll(t *testing.T) {
	for _, n := range numbers(3, few) {
		holdText(t, n)
	}
	for _, n := range slices.Concat(around(10, 120), around(2, 400), long(200)) {
		holdText(t, n)
	}
}

// Noughts within and at the end of a text, as many as go into a word and more.
func TestP62NoughtsWithin(t *testing.T) {
	for i := range 60 {
		for j := range 60 {
			v := plus(power(10, i), 3)
			v.Mul(v, power(10, j))
			holdText(t, natural(v))
		}
	}
}

// The chapter has no limit: more bits than a shift or a power may have.
func TestP62HasNoLimit(t *testing.T) {
	for _, bits := range []int{api.MaxShift - 1, api.MaxShift, api.MaxShift + 1, 2*api.MaxShift + 5} {
		holdText(t, natural(power(2, bits)))
		holdText(t, natural(plus(power(2, bits), -1)))
	}
	s := strings.Repeat("1234567890", 3000)
	v, _ := new(big.Int).SetString(s, 10)
	holdText(t, natural(v))
	unread(t, s+"x")
	unread(t, "x"+s)
	unread(t, "0"+s)
}

// The texts and the numbers stay what they were, when they are asked again.
func TestP62AnswersAgain(t *testing.T) {
	n := nat.Of(5, 7, 9)
	first := digits.Text(n)
	digits.Text(nat.Of(most, most, most, most))
	read, _ := digits.Read(first)
	digits.Read("99999999999999999999999999999999999999999999999999")
	if digits.Text(n) != first || !has(n, list{5, 7, 9}) || !has(read, list{5, 7, 9}) {
		t.Errorf("%d and %d have text %s", n.Words(), read.Words(), first)
	}
}
