package wide

import (
	"math"
	"math/big"
	"math/bits"
	"math/rand"
	"slices"
	"testing"

	"pontage/api"
)

const (
	full = math.MaxUint64
	half = 1 << 63
)

// greatest is 2^256 - 1.
func greatest() Wide {
	return Wide{full, full, full, full}
}

// power answers 2^n.
func power(n int) Wide {
	var a Wide
	a[n/64] = 1 << (n % 64)
	return a
}

// beyond answers 2^256.
func beyond() *big.Int {
	return new(big.Int).Lsh(big.NewInt(1), 256)
}

// bigOf answers a number as the library has it, by nothing of package wide's own.
func bigOf(a Wide) *big.Int {
	b := new(big.Int)
	for _, word := range slices.Backward(a[:]) {
		b.Lsh(b, 64)
		b.Or(b, new(big.Int).SetUint64(word))
	}
	return b
}

// wideOf answers a number of the library's modulo 2^256, and whether that isn't the number itself.
func wideOf(b *big.Int) (Wide, bool) {
	rest := new(big.Int).Mod(b, beyond())
	lost := rest.Cmp(b) != 0
	word := new(big.Int).SetUint64(full)
	var a Wide
	for i := range a {
		a[i] = new(big.Int).And(rest, word).Uint64()
		rest.Rsh(rest, 64)
	}
	return a, lost
}

// ends are numbers that the chapter, or its words, have their edges at.
func ends() []Wide {
	all := []Wide{
		{}, {1}, {2}, {3}, {10},
		{full}, {full - 1}, {half}, {half - 1}, {half + 1},
		{0, 1}, {1, 1}, {full, full}, {0, full},
		{0, 0, 1}, {0, 0, full}, {full, full, full}, {0, 0, half}, {full, full, half - 1},
		{0, 0, 0, 1}, {0, 0, 0, full}, {0, 0, 0, half}, {1, 0, 0, half}, {full, full, full, half - 1},
		{1, 0, 0, 1}, {0, 1, 1}, {full, 0, 0, full}, {0, full, full}, {1, 2, 3, 4}, {full, 0, full}, {0, full, 0, full},
		greatest(), {full - 1, full, full, full},
	}
	for _, n := range []int{1, 31, 32, 63, 64, 65, 127, 128, 129, 191, 192, 193, 254, 255} {
		all = append(all, power(n))
	}
	return all
}

// drawn are numbers of any number of words, most of their words at an end of a word.
func drawn(seed int64, count int) []Wide {
	rnd := rand.New(rand.NewSource(seed))
	words := []uint64{0, 1, 2, half - 1, half, half + 1, full - 1, full, 1 << 32}
	all := make([]Wide, count)
	for i := range all {
		for k := range 1 + rnd.Intn(4) {
			all[i][k] = words[rnd.Intn(len(words))]
			if rnd.Intn(3) == 0 {
				all[i][k] = rnd.Uint64() >> rnd.Intn(64)
			}
		}
	}
	return all
}

// pairs goes through all pairs of ends, and through drawn ones.
func pairs(yield func(a, b Wide) bool) {
	for _, a := range ends() {
		for _, b := range ends() {
			if !yield(a, b) {
				return
			}
		}
	}
	some := drawn(1, 20000)
	for i, a := range some {
		if !yield(a, some[len(some)-1-i]) {
			return
		}
	}
}

// numbers are all ends, and drawn ones.
func numbers() []Wide {
	return append(ends(), drawn(2, 2000)...)
}

// P3.1

func TestOfIsTheLowestWord(t *testing.T) {
	for _, x := range []uint64{0, 1, 10, half, full} {
		if got := Of(x); got != (Wide{x, 0, 0, 0}) {
			t.Errorf("Of(%#x): %#x", x, got)
		}
	}
}

func TestProductOfTwoWords(t *testing.T) {
	for _, c := range []struct {
		a, b uint64
		want Wide
	}{
		{half, 4, Wide{0, 2, 0, 0}},
		{4, half, Wide{0, 2, 0, 0}},
		{0, full, Wide{}},
		{full, 0, Wide{}},
		{1, full, Wide{full}},
		{3, 5, Wide{15}},
		{1 << 32, 1 << 32, Wide{0, 1}},
		{half, 2, Wide{0, 1}},
		{full, full, Wide{1, full - 1}},
		{full, 2, Wide{full - 1, 1}},
	} {
		if got := Product(c.a, c.b); got != c.want {
			t.Errorf("Product(%#x, %#x): %#x, want %#x", c.a, c.b, got, c.want)
		}
	}
	for a := range pairs {
		want, _ := wideOf(new(big.Int).Mul(bigOf(Wide{a[0]}), bigOf(Wide{a[1]})))
		if got := Product(a[0], a[1]); got != want {
			t.Errorf("Product(%#x, %#x): %#x, want %#x", a[0], a[1], got, want)
		}
	}
}

// carried are sums that carry from a word to the next ones.
func carried() []struct {
	a, b, sum Wide
	over      bool
} {
	return []struct {
		a, b, sum Wide
		over      bool
	}{
		{Wide{}, Wide{}, Wide{}, false},
		{Wide{1, 2, 3, 4}, Wide{10, 20, 30, 40}, Wide{11, 22, 33, 44}, false},
		{Wide{full}, Wide{1}, Wide{0, 1}, false},
		{Wide{full, full}, Wide{1}, Wide{0, 0, 1}, false},
		{Wide{full, full, full}, Wide{1}, Wide{0, 0, 0, 1}, false},
		{greatest(), Wide{1}, Wide{}, true},
		{greatest(), Wide{}, greatest(), false},
		{greatest(), greatest(), Wide{full - 1, full, full, full}, true},
		{Wide{0, 0, 0, half}, Wide{0, 0, 0, half}, Wide{}, true},
		{Wide{7, 0, 0, half}, Wide{5, 0, 0, half + 3}, Wide{12, 0, 0, 3}, true},
		{Wide{full, full, full, half - 1}, Wide{0, 0, 0, half}, greatest(), false},
	}
}

func TestAddCarriesAndTellsWhatGoesBeyond(t *testing.T) {
	for _, c := range carried() {
		if got, over := c.a.Add(c.b); got != c.sum || over != c.over {
			t.Errorf("%#x and %#x: %#x, %v; want %#x, %v", c.a, c.b, got, over, c.sum, c.over)
		}
	}
	for a, b := range pairs {
		want, lost := wideOf(new(big.Int).Add(bigOf(a), bigOf(b)))
		if got, over := a.Add(b); got != want || over != lost {
			t.Errorf("%#x and %#x: %#x, %v; want %#x, %v", a, b, got, over, want, lost)
		}
	}
}

func TestSubBorrowsAndTellsWhatGoesBelowNought(t *testing.T) {
	for _, c := range carried() {
		if got, below := c.sum.Sub(c.b); got != c.a || below != c.over {
			t.Errorf("%#x less %#x: %#x, %v; want %#x, %v", c.sum, c.b, got, below, c.a, c.over)
		}
	}
	for _, c := range []struct{ a, b, want Wide }{
		{Wide{}, Wide{1}, greatest()},
		{Wide{}, greatest(), Wide{1}},
		{Wide{3}, Wide{10}, Wide{full - 6, full, full, full}},
		{Wide{}, Wide{0, 0, 0, 1}, Wide{0, 0, 0, full}},
	} {
		if got, below := c.a.Sub(c.b); got != c.want || !below {
			t.Errorf("%#x less %#x: %#x, %v; want %#x, true", c.a, c.b, got, below, c.want)
		}
	}
	for a, b := range pairs {
		want, lost := wideOf(new(big.Int).Sub(bigOf(a), bigOf(b)))
		if got, below := a.Sub(b); got != want || below != lost {
			t.Errorf("%#x less %#x: %#x, %v; want %#x, %v", a, b, got, below, want, lost)
		}
	}
}

func TestMulTellsWhatGoesBeyond(t *testing.T) {
	for _, c := range []struct {
		a    Wide
		x    uint64
		want Wide
		over bool
	}{
		{greatest(), 0, Wide{}, false},
		{greatest(), 1, greatest(), false},
		{greatest(), 2, Wide{full - 1, full, full, full}, true},
		{greatest(), full, Wide{1, full, full, full}, true},
		{Wide{full, full, full}, full, Wide{1, full, full, full - 1}, false},
		{Wide{0, 0, 0, half}, 2, Wide{}, true},
		{Wide{0, 0, 0, half}, 3, Wide{0, 0, 0, half}, true},
		{Wide{0, 0, 0, half - 1}, 2, Wide{0, 0, 0, full - 1}, false},
		{Wide{1, 2, 3, 4}, 10, Wide{10, 20, 30, 40}, false},
		{Wide{half, half, half}, 2, Wide{0, 1, 1, 1}, false},
		{Wide{full, full, full, 1}, half, Wide{half, full, full, full}, false},
		{Wide{0, 0, half, 1}, full, Wide{0, 0, half, half - 2}, true},
	} {
		if got, over := c.a.Mul(c.x); got != c.want || over != c.over {
			t.Errorf("%#x times %#x: %#x, %v; want %#x, %v", c.a, c.x, got, over, c.want, c.over)
		}
	}
	for a, b := range pairs {
		for _, x := range b {
			want, lost := wideOf(new(big.Int).Mul(bigOf(a), bigOf(Wide{x})))
			if got, over := a.Mul(x); got != want || over != lost {
				t.Errorf("%#x times %#x: %#x, %v; want %#x, %v", a, x, got, over, want, lost)
			}
		}
	}
}

// mustDiv checks that a by b is such a quotient and rest.
func mustDiv(t *testing.T, a, b, quotient, rest Wide) {
	t.Helper()
	if q, r, e := a.Div(b); q != quotient || r != rest || e != api.OK {
		t.Errorf("%#x by %#x: %#x, %#x, %d; want %#x, %#x", a, b, q, r, e, quotient, rest)
	}
}

func TestDivOfKnownNumbers(t *testing.T) {
	for _, c := range []struct{ a, b, quotient, rest Wide }{
		{Wide{10}, Wide{3}, Wide{3}, Wide{1}},
		{Wide{}, Wide{1}, Wide{}, Wide{}},
		{Wide{}, greatest(), Wide{}, Wide{}},
		{greatest(), Wide{1}, greatest(), Wide{}},
		{greatest(), Wide{2}, Wide{full, full, full, half - 1}, Wide{1}},
		{greatest(), Wide{full}, Wide{1, 1, 1, 1}, Wide{}},
		{greatest(), Wide{half}, Wide{full, full, full, 1}, Wide{half - 1}},
		{greatest(), Wide{0, 1}, Wide{full, full, full}, Wide{full}},
		{greatest(), Wide{0, 0, 1}, Wide{full, full}, Wide{full, full}},
		{greatest(), Wide{0, 0, 0, 1}, Wide{full}, Wide{full, full, full}},
		{greatest(), Wide{0, 0, 0, half}, Wide{1}, Wide{full, full, full, half - 1}},
		{greatest(), Wide{full, full}, Wide{1, 0, 1}, Wide{}},
		{Wide{1, 2, 3, 4}, Wide{0, 1}, Wide{2, 3, 4}, Wide{1}},
		{Wide{5, 0, 0, 12}, Wide{0, 0, 0, 4}, Wide{3}, Wide{5}},
	} {
		mustDiv(t, c.a, c.b, c.quotient, c.rest)
	}
}

func TestDivByNoughtIsAnError(t *testing.T) {
	for _, a := range ends() {
		if q, r, e := a.Div(Wide{}); q != (Wide{}) || r != (Wide{}) || e != api.ErrZero {
			t.Errorf("%#x by 0: %#x, %#x, %d", a, q, r, e)
		}
	}
}

func TestDivByItselfAndByGreaterOnes(t *testing.T) {
	for _, a := range numbers() {
		if a == (Wide{}) {
			continue
		}
		mustDiv(t, a, a, Wide{1}, Wide{})
		mustDiv(t, a, Wide{1}, a, Wide{})
		if more, over := a.Add(Wide{1}); !over {
			mustDiv(t, a, more, Wide{}, a)
		}
		mustDiv(t, Wide{}, a, Wide{}, Wide{})
	}
}

// mustDivAsTheLibrary checks that quotient and rest are the library's.
func mustDivAsTheLibrary(t *testing.T, a, b Wide) {
	t.Helper()
	quotient, rest := new(big.Int).QuoRem(bigOf(a), bigOf(b), new(big.Int))
	q, _ := wideOf(quotient)
	r, _ := wideOf(rest)
	mustDiv(t, a, b, q, r)
}

// hardDivs are such that a guess of a word, by the highest word that is turned up of the divisor, and two of what is divided, is too great by so much.
func hardDivs() []struct {
	a, b Wide
	by   uint64
	over bool // does the guess bring it beyond 2^256?
} {
	return []struct {
		a, b Wide
		by   uint64
		over bool
	}{
		{Wide{2, half, 1, half}, Wide{full, 0xa79d5ab29f22bfbd}, 1, false},
		{Wide{half, half, 1, 0xb846ca2bffee0e46}, Wide{half - 1, 0x100000000}, 2, false},
		{Wide{0x7302c42574b15371, 0x100000000, 1, 0x2c58f79de80392d8}, Wide{full - 1, half + 1}, 2, false},
		{Wide{0x100000000, 0, 0, 1}, Wide{half + 1, 0, half}, 1, false},
		{Wide{0, 0, 0, full - 1}, Wide{0x8ae9f06f03ed7d73, 1, 1}, 2, false},
		{Wide{0xd9c5ea76e06a900c, 1, 1, full}, Wide{full, full - 1, half}, 2, false},
		{Wide{full, 1, 1, full}, Wide{half - 1, half + 1, full - 1, 1}, 1, false},
		{Wide{full, 1, half, full - 1}, Wide{2, full, 1, 1}, 2, false},
		{Wide{0x100000000, 0xb7c825fef8146c6c, full, full}, Wide{half + 1, 0xd8031e9eeb6a204e, 0x99584733e5e000e0, 1}, 1, true},
		{Wide{full - 1, half + 1, 1, full}, Wide{full, half + 1, 1, 1}, 2, true},
	}
}

// guessed answers the greatest guess less its word of the quotient, and whether a guess times b goes beyond: what hardDivs says of itself.
func guessed(a, b Wide) (uint64, bool) {
	divisor := bigOf(b)
	size := divisor.BitLen() - 64
	top := new(big.Int).Rsh(divisor, uint(size))
	rest := new(big.Int)
	var by uint64
	over := false
	for _, word := range slices.Backward(a[:]) {
		rest.Lsh(rest, 64)
		rest.Or(rest, new(big.Int).SetUint64(word))
		guess := new(big.Int).Rsh(rest, uint(size))
		guess.Quo(guess, top)
		if !guess.IsUint64() {
			guess.SetUint64(full)
		}
		over = over || new(big.Int).Mul(guess, divisor).Cmp(beyond()) >= 0
		right := new(big.Int).Quo(rest, divisor)
		by = max(by, guess.Uint64()-right.Uint64())
		rest.Rem(rest, divisor)
	}
	return by, over
}

func TestDivWhereTheGuessOfAWordIsTooGreat(t *testing.T) {
	for _, c := range hardDivs() {
		if by, over := guessed(c.a, c.b); by != c.by || over != c.over {
			t.Errorf("%#x by %#x is no such case: %d, %v", c.a, c.b, by, over)
		}
		mustDivAsTheLibrary(t, c.a, c.b)
	}
}

func TestDivIsTheLibrarys(t *testing.T) {
	for a, b := range pairs {
		if b == (Wide{}) {
			continue
		}
		mustDivAsTheLibrary(t, a, b)
	}
}

// Where the rest is at its least and its greatest, a word of the quotient is most easily missed by one.
func TestDivOfTheDivisorsMultiples(t *testing.T) {
	for b, x := range pairs {
		product, over := b.Mul(x[0])
		if b == (Wide{}) || over {
			continue
		}
		mustDiv(t, product, b, Wide{x[0]}, Wide{})
		if less, below := product.Sub(Wide{1}); !below && b != (Wide{1}) {
			most, _ := b.Sub(Wide{1})
			mustDiv(t, less, b, Wide{x[0] - 1}, most)
		}
	}
}

// turns are numbers of bits to turn by.
func turns() []int {
	all := []int{math.MinInt, math.MinInt + 1, math.MinInt + 64, math.MinInt32, -1 << 32, -1000, math.MaxInt, math.MaxInt - 1, math.MaxInt32, 1 << 32, 1<<32 + 1, 1000}
	for n := -260; n <= 260; n++ {
		all = append(all, n)
	}
	return all
}

// bigTurned answers a times 2 to the power of n, rounded down, modulo 2^256.
func bigTurned(a Wide, n int) Wide {
	switch {
	case n >= 256 || n <= -256:
		return Wide{}
	case n < 0:
		turned, _ := wideOf(new(big.Int).Rsh(bigOf(a), uint(-n)))
		return turned
	}
	turned, _ := wideOf(new(big.Int).Lsh(bigOf(a), uint(n)))
	return turned
}

func TestLeftAndRightOfKnownNumbers(t *testing.T) {
	a := Wide{1, 2, 3, half + 4}
	for _, c := range []struct {
		n           int
		left, right Wide
	}{
		{0, a, a},
		{1, Wide{2, 4, 6, 8}, Wide{0, half + 1, 1, half/2 + 2}},
		{63, Wide{half, 0, half + 1, 1}, Wide{4, 6, 8, 1}},
		{64, Wide{0, 1, 2, 3}, Wide{2, 3, half + 4, 0}},
		{65, Wide{0, 2, 4, 6}, Wide{half + 1, 1, half/2 + 2, 0}},
		{128, Wide{0, 0, 1, 2}, Wide{3, half + 4, 0, 0}},
		{192, Wide{0, 0, 0, 1}, Wide{half + 4, 0, 0, 0}},
		{255, Wide{0, 0, 0, half}, Wide{1, 0, 0, 0}},
		{256, Wide{}, Wide{}},
		{257, Wide{}, Wide{}},
		{320, Wide{}, Wide{}},
		{1 << 32, Wide{}, Wide{}},
		{math.MaxInt, Wide{}, Wide{}},
	} {
		if l, r := a.Left(c.n), a.Right(c.n); l != c.left || r != c.right {
			t.Errorf("by %d: left %#x, right %#x; want %#x, %#x", c.n, l, r, c.left, c.right)
		}
		if l, r := a.Left(-c.n), a.Right(-c.n); l != c.right || r != c.left {
			t.Errorf("by %d: left %#x, right %#x; want %#x, %#x", -c.n, l, r, c.right, c.left)
		}
	}
	if l, r := a.Left(math.MinInt), a.Right(math.MinInt); l != (Wide{}) || r != (Wide{}) {
		t.Errorf("by the least: left %#x, right %#x", l, r)
	}
}

func TestLeftAndRightByAnyNumberOfBits(t *testing.T) {
	for _, a := range append(ends(), drawn(3, 50)...) {
		for _, n := range turns() {
			other := -n
			if n == math.MinInt {
				other = math.MaxInt
			}
			if got, want := a.Left(n), bigTurned(a, n); got != want {
				t.Errorf("%#x left by %d: %#x, want %#x", a, n, got, want)
			}
			if got, want := a.Right(n), bigTurned(a, other); got != want {
				t.Errorf("%#x right by %d: %#x, want %#x", a, n, got, want)
			}
		}
	}
}

func TestNotIsTheGreatestLessIt(t *testing.T) {
	if got := (Wide{}).Not(); got != greatest() {
		t.Errorf("Not of 0: %#x", got)
	}
	if got := greatest().Not(); got != (Wide{}) {
		t.Errorf("Not of the greatest: %#x", got)
	}
	if got, want := (Wide{1, 2, 3, half}).Not(), (Wide{full - 1, full - 2, full - 3, half - 1}); got != want {
		t.Errorf("Not: %#x, want %#x", got, want)
	}
	for _, a := range numbers() {
		want, _ := wideOf(new(big.Int).Sub(bigOf(greatest()), bigOf(a)))
		if got := a.Not(); got != want || got.Not() != a {
			t.Errorf("Not of %#x: %#x, want %#x", a, got, want)
		}
	}
}

// P3.2

func TestCmpOfKnownNumbers(t *testing.T) {
	rising := []Wide{
		{}, {1}, {half}, {full}, {0, 1}, {1, 1}, {full, full}, {0, 0, 1}, {full, full, full},
		{0, 0, 0, 1}, {1, 0, 0, 1}, {0, 1, 0, 1}, {0, 0, 1, 1}, {full, full, full, half - 1}, {0, 0, 0, half}, {full - 1, full, full, full}, greatest(),
	}
	for i, a := range rising {
		for k, b := range rising {
			want := 0
			if i < k {
				want = -1
			} else if i > k {
				want = 1
			}
			if got := a.Cmp(b); got != want {
				t.Errorf("%#x against %#x: %d, want %d", a, b, got, want)
			}
		}
	}
}

func TestCmpIsTheLibrarys(t *testing.T) {
	for a, b := range pairs {
		if got, want := a.Cmp(b), bigOf(a).Cmp(bigOf(b)); got != want {
			t.Errorf("%#x against %#x: %d, want %d", a, b, got, want)
		}
	}
	for _, a := range numbers() {
		if got := a.Cmp(a); got != 0 {
			t.Errorf("%#x against itself: %d", a, got)
		}
	}
}

func TestBitsAreThoseThatItNeeds(t *testing.T) {
	if got := (Wide{}).Bits(); got != 0 {
		t.Errorf("Bits of 0: %d", got)
	}
	if got := greatest().Bits(); got != 256 {
		t.Errorf("Bits of the greatest: %d", got)
	}
	for n := range 256 {
		if got := power(n).Bits(); got != n+1 {
			t.Errorf("Bits of 2^%d: %d", n, got)
		}
		less, _ := wideOf(new(big.Int).Sub(bigOf(power(n)), big.NewInt(1)))
		if got := less.Bits(); got != n {
			t.Errorf("Bits of 2^%d - 1: %d", n, got)
		}
	}
	for _, a := range numbers() {
		if got, want := a.Bits(), bigOf(a).BitLen(); got != want {
			t.Errorf("Bits of %#x: %d, want %d", a, got, want)
		}
	}
}

func TestUintOfWhatIsBelow64Bits(t *testing.T) {
	for _, x := range []uint64{0, 1, 2, half, full - 1, full} {
		if got, ok := (Wide{x}).Uint(); got != x || !ok {
			t.Errorf("Uint of %#x: %#x, %v", x, got, ok)
		}
	}
	for _, a := range []Wide{{0, 1}, {5, 1}, {5, 0, 1}, {5, 0, 0, 1}, {full, full}, {0, 0, 0, half}, {0, half}, {0, 0, half}, greatest()} {
		if got, ok := a.Uint(); got != 0 || ok {
			t.Errorf("Uint of %#x: %#x, %v", a, got, ok)
		}
	}
	for _, a := range numbers() {
		want, small := uint64(0), bigOf(a).IsUint64()
		if small {
			want = a[0]
		}
		if got, ok := a.Uint(); got != want || ok != small {
			t.Errorf("Uint of %#x: %#x, %v", a, got, ok)
		}
	}
}

func TestBytesAreTheLowestFirst(t *testing.T) {
	a := Wide{0x0807060504030201, 0x100f0e0d0c0b0a09, 0x1817161514131211, 0x201f1e1d1c1b1a19}
	var b [32]byte
	for i := range b {
		b[i] = byte(i + 1)
	}
	if got := a.Bytes(); got != b {
		t.Errorf("Bytes: %v", got)
	}
	if got := FromBytes(b); got != a {
		t.Errorf("FromBytes: %#x", got)
	}
	if (Wide{}).Bytes() != [32]byte{} || FromBytes([32]byte{}) != (Wide{}) {
		t.Error("0 isn't all noughts")
	}
	if (Wide{258}).Bytes() != [32]byte{2, 1} || FromBytes([32]byte{2, 1}) != (Wide{258}) {
		t.Error("258 isn't 2, 1")
	}
	for n := range 256 { // each bit alone
		var one [32]byte
		one[n/8] = 1 << (n % 8)
		if power(n).Bytes() != one || FromBytes(one) != power(n) {
			t.Errorf("bit %d: %v, %#x", n, power(n).Bytes(), FromBytes(one))
		}
	}
}

func TestFromBytesUndoesBytes(t *testing.T) {
	for _, a := range numbers() {
		b := a.Bytes()
		if got := FromBytes(b); got != a {
			t.Errorf("FromBytes of Bytes of %#x: %#x", a, got)
		}
		slices.Reverse(b[:])
		if new(big.Int).SetBytes(b[:]).Cmp(bigOf(a)) != 0 {
			t.Errorf("Bytes of %#x: %v, turned about", a, b)
		}
	}
}

// Rules

func TestNothingHandedInIsChanged(t *testing.T) {
	for a, b := range pairs {
		x, y := a, b
		x.Add(y)
		x.Sub(y)
		x.Mul(y[0])
		x.Div(y)
		x.Left(bits.Len64(y[0]))
		x.Right(bits.Len64(y[0]))
		x.Not()
		x.Cmp(y)
		x.Bits()
		x.Uint()
		x.Bytes()
		if x != a || y != b {
			t.Fatalf("changed: %#x is %#x, %#x is %#x", a, x, b, y)
		}
	}
}
