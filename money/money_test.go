package money

import (
	"bytes"
	"iter"
	"math"
	"math/big"
	"math/rand"
	"slices"
	"strings"
	"testing"

	"pontage/api"
)

const (
	most = Amount(api.MaxAmount)
	full = math.MaxUint64
)

// ends are amounts at an end, or between ends.
func ends() []Amount {
	return []Amount{0, 1, 2, 3, 9, 10, 11, api.Mille, api.Coin, math.MaxUint32, 1 << 32, most/2 - 1, most / 2, most/2 + 1, most - 1, most}
}

// wrongs are above MaxAmount.
func wrongs() []Amount {
	return []Amount{most + 1, most + 2, 1<<63 - 1, 1 << 63, 1<<63 + 1, full - 1, full}
}

// words are numbers of 64 bits, those at an end among them.
func words() []uint64 {
	all := []uint64{0, 1, 2, 3, 7, 10, api.Mille, api.Coin, 1<<32 - 1, 1 << 32, api.MaxAmount - 1, api.MaxAmount, api.MaxAmount + 1, 1<<63 - 1, 1 << 63, full - 1, full}
	rnd := rand.New(rand.NewSource(1))
	for range 20 {
		all = append(all, rnd.Uint64()>>rnd.Intn(64))
	}
	return all
}

// drawn are amounts of any size.
func drawn(seed int64, count int) []Amount {
	rnd := rand.New(rand.NewSource(seed))
	all := make([]Amount, count)
	for i := range all {
		all[i] = Amount(rnd.Uint64() >> (2 + rnd.Intn(62)))
	}
	return all
}

// amounts are ends and drawn ones.
func amounts() []Amount {
	return append(ends(), drawn(2, 300)...)
}

func bigOf(x uint64) *big.Int {
	return new(big.Int).SetUint64(x)
}

// must checks an answer: a sum and api.OK, or an error beside 0.
func must(t *testing.T, what string, got Amount, e api.Errno, want Amount, wanted api.Errno) {
	t.Helper()
	if got != want || e != wanted {
		t.Errorf("%s: %d, %d; want %d, %d", what, uint64(got), int(e), uint64(want), int(wanted))
	}
}

// P4.1

func TestRightIsAtMostMaxAmount(t *testing.T) {
	for _, a := range amounts() {
		if !a.Right() {
			t.Errorf("%d isn't right", uint64(a))
		}
	}
	for _, a := range wrongs() {
		if a.Right() {
			t.Errorf("%d is right", uint64(a))
		}
	}
}

func TestAddOfKnownAmounts(t *testing.T) {
	for _, c := range []struct {
		a, b, want Amount
		e          api.Errno
	}{
		{0, 0, 0, api.OK},
		{1, 0, 1, api.OK},
		{2, 3, 5, api.OK},
		{0, most, most, api.OK},
		{most, 0, most, api.OK},
		{most - 1, 1, most, api.OK},
		{most / 2, most / 2, most, api.OK},
		{1, most, 0, api.ErrOver},
		{most, 1, 0, api.ErrOver},
		{most/2 + 1, most / 2, 0, api.ErrOver},
		{most, most, 0, api.ErrOver},
		{most + 1, 0, 0, api.ErrArg},
		{0, most + 1, 0, api.ErrArg},
		{full, 1, 0, api.ErrArg},
		{1, full, 0, api.ErrArg},
		{1 << 63, 1 << 63, 0, api.ErrArg},
		{full, full, 0, api.ErrArg},
		{most, most + 1, 0, api.ErrArg},
	} {
		got, e := c.a.Add(c.b)
		must(t, "Add", got, e, c.want, c.e)
	}
}

func TestSubOfKnownAmounts(t *testing.T) {
	for _, c := range []struct {
		a, b, want Amount
		e          api.Errno
	}{
		{0, 0, 0, api.OK},
		{1, 0, 1, api.OK},
		{5, 3, 2, api.OK},
		{most, 0, most, api.OK},
		{most, 1, most - 1, api.OK},
		{most, most - 1, 1, api.OK},
		{most, most, 0, api.OK},
		{0, 1, 0, api.ErrFew},
		{1, 2, 0, api.ErrFew},
		{0, most, 0, api.ErrFew},
		{most - 1, most, 0, api.ErrFew},
		{most + 1, 0, 0, api.ErrArg},
		{most + 1, 1, 0, api.ErrArg},
		{most + 1, most + 1, 0, api.ErrArg},
		{0, most + 1, 0, api.ErrArg},
		{0, full, 0, api.ErrArg},
		{full, 0, 0, api.ErrArg},
		{full, full, 0, api.ErrArg},
	} {
		got, e := c.a.Sub(c.b)
		must(t, "Sub", got, e, c.want, c.e)
	}
}

func TestAddAndSubAreTheLibrarys(t *testing.T) {
	for _, a := range amounts() {
		for _, b := range amounts() {
			sum := new(big.Int).Add(bigOf(uint64(a)), bigOf(uint64(b)))
			got, e := a.Add(b)
			if sum.Cmp(bigOf(api.MaxAmount)) > 0 {
				must(t, "Add", got, e, 0, api.ErrOver)
			} else {
				must(t, "Add", got, e, Amount(sum.Uint64()), api.OK)
			}
			less := new(big.Int).Sub(bigOf(uint64(a)), bigOf(uint64(b)))
			got, e = a.Sub(b)
			if less.Sign() < 0 {
				must(t, "Sub", got, e, 0, api.ErrFew)
			} else {
				must(t, "Sub", got, e, Amount(less.Uint64()), api.OK)
			}
		}
	}
}

func TestAddAndSubOfWrongAmounts(t *testing.T) {
	for _, wrong := range wrongs() {
		for _, other := range append(ends(), wrongs()...) {
			got, e := wrong.Add(other)
			must(t, "Add", got, e, 0, api.ErrArg)
			got, e = other.Add(wrong)
			must(t, "Add", got, e, 0, api.ErrArg)
			got, e = wrong.Sub(other)
			must(t, "Sub", got, e, 0, api.ErrArg)
			got, e = other.Sub(wrong)
			must(t, "Sub", got, e, 0, api.ErrArg)
		}
	}
}

func TestPartOfKnownAmounts(t *testing.T) {
	for _, c := range []struct {
		a         Amount
		up, by    uint64
		down, top Amount
	}{
		{10, 2, 3, 6, 7}, // the chapter's example
		{10, 3, 5, 6, 6}, // goes round
		{0, 0, 1, 0, 0},
		{0, full, 1, 0, 0},
		{0, full, full, 0, 0},
		{10, 0, 1, 0, 0},
		{most, 0, full, 0, 0},
		{1, 1, full, 0, 1},
		{7, 1, 1, 7, 7},
		{1, full, full, 1, 1},
		{most, full, full, most, most},
		{most, 1, full, 0, 1},
		{most, 3, full, 0, 1},
		{most, 4, full, 1, 2},
		{most, full - 1, full, most - 1, most},
		{most - 1, full, full, most - 1, most - 1},
		{1, api.MaxAmount, 1, most, most},
		{2, api.MaxAmount, 2, most, most},
		{3, api.MaxAmount - 1, 3, most - 1, most - 1},
		{most, 1, 1, most, most},
		{most, 2, 2, most, most},
		{most, 2, 3, 3074457345618258602, 3074457345618258603},
		{1, 3*api.MaxAmount - 1, 3, most - 1, most},
		{1, full, 4, most - 1, most},
	} {
		got, e := c.a.Part(c.up, c.by, false)
		must(t, "Part, rounded down", got, e, c.down, api.OK)
		got, e = c.a.Part(c.up, c.by, true)
		must(t, "Part, rounded up", got, e, c.top, api.OK)
	}
}

func TestPartThatGoesBeyondByRoundingUpAlone(t *testing.T) {
	for _, c := range []struct {
		a      Amount
		up, by uint64
	}{
		{1, 2*api.MaxAmount + 1, 2},
		{1, 3*api.MaxAmount + 1, 3},
		{1, 3*api.MaxAmount + 2, 3},
		{3, 3074457345618258603, 2}, // 2^63 + 1, by 2
		{most, full, full - 1},
	} {
		got, e := c.a.Part(c.up, c.by, false)
		must(t, "Part, rounded down", got, e, most, api.OK)
		got, e = c.a.Part(c.up, c.by, true)
		must(t, "Part, rounded up", got, e, 0, api.ErrOver)
	}
}

func TestPartErrors(t *testing.T) {
	for _, more := range []bool{false, true} {
		for _, c := range []struct {
			a      Amount
			up, by uint64
			e      api.Errno
		}{
			{most + 1, 1, 1, api.ErrArg},
			{most + 1, 0, 1, api.ErrArg},
			{most + 1, 1, 2, api.ErrArg},
			{most + 1, 1, 0, api.ErrArg},
			{full, full, 0, api.ErrArg},
			{full, full, 1, api.ErrArg},
			{0, 0, 0, api.ErrZero},
			{10, 2, 0, api.ErrZero},
			{most, full, 0, api.ErrZero},
			{most, 2, 1, api.ErrOver},
			{1, api.MaxAmount + 1, 1, api.ErrOver},
			{most, full, 1, api.ErrOver},
			{most, 4, 1, api.ErrOver},          // 2^64: its lowest word is 0
			{most, 5, 1, api.ErrOver},          // 2^64 + 2^62
			{1 << 32, 1 << 32, 1, api.ErrOver}, // 2^64 again
			{most, 3, 2, api.ErrOver},
			{1, full, 3, api.ErrOver},
		} {
			got, e := c.a.Part(c.up, c.by, more)
			must(t, "Part", got, e, 0, c.e)
		}
	}
}

// partOf answers what Part is to answer, by the library.
func partOf(a Amount, up, by uint64, more bool) (Amount, api.Errno) {
	if by == 0 {
		return 0, api.ErrZero
	}
	product := new(big.Int).Mul(bigOf(uint64(a)), bigOf(up))
	quotient, rest := new(big.Int).QuoRem(product, bigOf(by), new(big.Int))
	if more && rest.Sign() > 0 {
		quotient.Add(quotient, bigOf(1))
	}
	if quotient.Cmp(bigOf(api.MaxAmount)) > 0 {
		return 0, api.ErrOver
	}
	return Amount(quotient.Uint64()), api.OK
}

func TestPartIsTheLibrarys(t *testing.T) {
	for _, a := range append(ends(), drawn(3, 30)...) {
		for _, up := range words() {
			for _, by := range words() {
				for _, more := range []bool{false, true} {
					want, wanted := partOf(a, up, by, more)
					got, e := a.Part(up, by, more)
					must(t, "Part", got, e, want, wanted)
				}
			}
		}
	}
}

func TestPartAsAmountsComeToTheEnd(t *testing.T) {
	for _, a := range append(ends(), drawn(4, 200)...) {
		if a == 0 {
			continue
		}
		// MaxAmount and a little, times a, by a
		for _, by := range []uint64{uint64(a), 1} {
			for _, step := range []uint64{0, 1, 2} {
				for _, more := range []bool{false, true} {
					up := api.MaxAmount - 1 + step
					want, wanted := partOf(a, up, by, more)
					got, e := a.Part(up, by, more)
					must(t, "Part", got, e, want, wanted)
				}
			}
		}
	}
}

func TestTotalOfAmounts(t *testing.T) {
	for _, c := range []struct {
		name string
		all  []Amount
		want Amount
		e    api.Errno
	}{
		{"none", nil, 0, api.OK},
		{"an empty list", []Amount{}, 0, api.OK},
		{"0", []Amount{0}, 0, api.OK},
		{"one", []Amount{7}, 7, api.OK},
		{"three", []Amount{1, 2, 3}, 6, api.OK},
		{"with noughts", []Amount{0, 5, 0, 0, 6, 0}, 11, api.OK},
		{"MaxAmount", []Amount{most}, most, api.OK},
		{"up to MaxAmount", []Amount{most - 3, 1, 2}, most, api.OK},
		{"up to MaxAmount, and noughts", []Amount{most / 2, 0, most / 2, 0}, most, api.OK},
		{"one beyond", []Amount{most - 3, 1, 3}, 0, api.ErrOver},
		{"one beyond at last", []Amount{most, 0, 1}, 0, api.ErrOver},
		{"far beyond", []Amount{most, most, most, most, most}, 0, api.ErrOver},
		{"a wrong one alone", []Amount{most + 1}, 0, api.ErrArg},
		{"a wrong one first", []Amount{full, 1, 2}, 0, api.ErrArg},
		{"a wrong one last", []Amount{1, 2, full}, 0, api.ErrArg},
		{"a wrong one that would go round to a right sum", []Amount{2, full}, 0, api.ErrArg},
		{"a wrong one ahead of where it goes beyond", []Amount{1, most + 1, most, most}, 0, api.ErrArg},
		{"a wrong one behind where it goes beyond", []Amount{1, most, most + 1}, 0, api.ErrOver},
		{"a wrong one right behind MaxAmount", []Amount{most, most + 1, 1}, 0, api.ErrArg},
		{"a wrong one far behind where it goes beyond", []Amount{most, 1, 0, 0, full}, 0, api.ErrOver},
	} {
		got, e := Total(slices.Values(c.all))
		must(t, c.name, got, e, c.want, c.e)
	}
}

func TestTotalIsTheLibrarys(t *testing.T) {
	for seed := range int64(200) {
		all := drawn(100+seed, 1+int(seed)/4)
		want, wanted := Amount(0), api.OK
		sum := new(big.Int)
		for _, a := range all {
			sum.Add(sum, bigOf(uint64(a)))
		}
		if sum.Cmp(bigOf(api.MaxAmount)) > 0 {
			wanted = api.ErrOver
		} else {
			want = Amount(sum.Uint64())
		}
		got, e := Total(slices.Values(all))
		must(t, "Total", got, e, want, wanted)
	}
}

// counted tells amounts, and counts those that it told.
func counted(told *int, all ...Amount) iter.Seq[Amount] {
	return func(yield func(Amount) bool) {
		for _, a := range all {
			*told++
			if !yield(a) {
				return
			}
		}
	}
}

func TestTotalAsksNoFurtherThanTheFirstError(t *testing.T) {
	for _, c := range []struct {
		all  []Amount
		told int
	}{
		{nil, 0},
		{[]Amount{1, 2, 3}, 3},
		{[]Amount{1, full, 3, 4}, 2},
		{[]Amount{most, 0, 1, 4, 5}, 3},
	} {
		told := 0
		Total(counted(&told, c.all...))
		if told != c.told {
			t.Errorf("%d: %d were told, want %d", c.all, told, c.told)
		}
	}
}

func TestTotalOfAmountsWithoutAnEnd(t *testing.T) {
	got, e := Total(func(yield func(Amount) bool) {
		for yield(most / 1000) {
		}
	})
	must(t, "amounts without an end", got, e, 0, api.ErrOver)
}

func TestTotalOfAnIteratorThatIsntThere(t *testing.T) {
	got, e := Total(nil)
	must(t, "no iterator", got, e, 0, api.OK)
}

func TestTotalOfAnIteratorThatPanics(t *testing.T) {
	for _, c := range []struct {
		all  []Amount
		want Amount
		e    api.Errno
	}{
		{nil, 0, api.OK},
		{[]Amount{3, 4}, 7, api.OK},
		{[]Amount{3, full}, 0, api.ErrArg},
		{[]Amount{most, 1}, 0, api.ErrOver},
	} {
		got, e := Total(func(yield func(Amount) bool) {
			for _, a := range c.all {
				if !yield(a) {
					break
				}
			}
			panic("no more of them")
		})
		must(t, "an iterator that panics", got, e, c.want, c.e)
	}
}

func TestTotalOfAnIteratorThatGoesOn(t *testing.T) {
	got, e := Total(func(yield func(Amount) bool) {
		for _, a := range []Amount{1, full, 2, most, most} {
			yield(a)
		}
	})
	must(t, "an iterator that goes on behind an error", got, e, 0, api.ErrArg)
}

// P4.2

func TestTextIsTheDigits(t *testing.T) {
	for _, c := range []struct {
		a    Amount
		want string
	}{
		{0, "0"},
		{7, "7"},
		{10, "10"},
		{120, "120"},
		{api.Coin, "100000000"},
		{most - 1, "4611686018427387903"},
		{most, "4611686018427387904"},
		{most + 1, "4611686018427387905"},
		{full, "18446744073709551615"},
	} {
		if got := string(c.a.Text()); got != c.want {
			t.Errorf("Text of %d: %q, want %q", uint64(c.a), got, c.want)
		}
	}
	for _, a := range amounts() {
		if got := string(a.Text()); got != bigOf(uint64(a)).String() {
			t.Errorf("Text of %d: %q", uint64(a), got)
		}
	}
}

func TestParseOfDigits(t *testing.T) {
	for digit := range Amount(10) {
		got, e := Parse([]byte{'0' + byte(digit)})
		must(t, "one digit", got, e, digit, api.OK)
	}
	for _, c := range []struct {
		text string
		want Amount
	}{
		{"0", 0},
		{"10", 10},
		{"120", 120},
		{"1000000", 1000000},
		{"1234567890", 1234567890},
		{"4000000000000000000", 4000000000000000000},
		{"4611686018427387899", most - 5},
		{"4611686018427387903", most - 1},
		{"4611686018427387904", most},
	} {
		got, e := Parse([]byte(c.text))
		must(t, c.text, got, e, c.want, api.OK)
	}
}

func TestParseOfWhatIsBeyond(t *testing.T) {
	for _, text := range []string{
		"4611686018427387905",
		"4611686018427387909",
		"4611686018427387910",
		"4700000000000000000",
		"9999999999999999999",
		"9223372036854775807",
		"9223372036854775808",
		"18446744073709551615",
		"18446744073709551616", // 2^64: 0, if it went round
		"18446744073709551617",
		"23058430092136939520", // 5 times 2^62
		"10000000000000000000",
		"46116860184273879040",
		"340282366920938463463374607431768211456", // 2^128
		"1" + strings.Repeat("0", 64),             // a multiple of 2^64
		strings.Repeat("9", 100000),
		"1" + strings.Repeat("0", 100000),
	} {
		got, e := Parse([]byte(text))
		must(t, text[:min(len(text), 50)], got, e, 0, api.ErrOver)
	}
}

func TestParseOfWhatIsNoDigits(t *testing.T) {
	far := strings.Repeat("9", 100000)
	for _, text := range []string{
		"", "00", "01", "007", "0120", "00000000000000000000000", "04611686018427387904", "04611686018427387905",
		"0" + far, strings.Repeat("0", 100000),
		"+1", "-1", "-0", "+0", "+", "-", "1+", "1-1",
		" ", " 1", "1 ", "1 2", "\t1", "1\n", "\n", "1\r\n",
		"a", "1a", "a1", "0x10", "0b1", "0o7", "1e3", "1_000", "1,000", "1.0", ".1", "1.", "ff", "inf", "nil",
		"/", ":", "1/", "1:", "\x00", "1\x00", "\xff", "\xb1", "0\x00",
		"٣", "１", "1²",
		far + "x", "x" + far, far + " ", "9999999999999999999 ", "4611686018427387905x",
	} {
		got, e := Parse([]byte(text))
		must(t, text[:min(len(text), 50)], got, e, 0, api.ErrForm)
	}
	got, e := Parse(nil)
	must(t, "nil", got, e, 0, api.ErrForm)
}

func TestParseOfEachByte(t *testing.T) {
	for c := range 256 {
		alone, wanted := Amount(0), api.ErrForm
		if c >= '0' && c <= '9' {
			alone, wanted = Amount(c-'0'), api.OK
		}
		got, e := Parse([]byte{byte(c)})
		must(t, "a byte alone", got, e, alone, wanted)
		behind := Amount(0)
		if wanted == api.OK {
			behind = 10*5 + alone
		}
		got, e = Parse([]byte{'5', byte(c)})
		must(t, "a byte behind a digit", got, e, behind, wanted)
	}
}

// P4.3

func TestParseUndoesText(t *testing.T) {
	for _, a := range append(amounts(), drawn(5, 5000)...) {
		text := a.Text()
		got, e := Parse(text)
		must(t, string(text), got, e, a, api.OK)
		if !bytes.Equal(got.Text(), text) {
			t.Errorf("Text of Parse of %s: %s", text, got.Text())
		}
	}
	for size := Amount(1); size < most/10; size *= 10 {
		for _, a := range []Amount{size - 1, size, size + 1, 4 * size} {
			got, e := Parse(a.Text())
			must(t, "at a power of ten", got, e, a, api.OK)
		}
	}
	for _, a := range wrongs() {
		got, e := Parse(a.Text())
		must(t, "of a wrong one", got, e, 0, api.ErrOver)
	}
}

func TestParseNeitherChangesNorKeepsBytes(t *testing.T) {
	for _, text := range []string{"", "0", "7", "120", "4611686018427387904", "4611686018427387905", "012", "12x"} {
		room := append([]byte(text), "5678 and more"...)
		before := slices.Clone(room)
		got, e := Parse(room[:len(text)])
		if !bytes.Equal(room, before) {
			t.Errorf("%q or its spare room changed", text)
		}
		want, wanted := Parse(slices.Clip(before[:len(text)]))
		must(t, "with spare room", got, e, want, wanted)
		clear(room)
		again, e := Parse([]byte(text))
		must(t, "after the bytes changed", again, e, want, wanted)
	}
}

func TestTextIsNewMemory(t *testing.T) {
	for _, a := range amounts() {
		first, second := a.Text(), a.Text()
		clear(first)
		clear(first[:cap(first)])
		want := bigOf(uint64(a)).String()
		if string(second) != want || string(a.Text()) != want {
			t.Errorf("texts of %d share memory", uint64(a))
		}
		if string(append(second[:0], "99"...)) != "99" || string(a.Text()) != want {
			t.Errorf("a text of %d is kept", uint64(a))
		}
	}
}

func TestTotalNeitherChangesNorKeepsAmounts(t *testing.T) {
	all := []Amount{1, 2, 3, 4}
	list := slices.Values(all[:3])
	for range 2 {
		got, e := Total(list)
		must(t, "Total", got, e, 6, api.OK)
	}
	if !slices.Equal(all, []Amount{1, 2, 3, 4}) {
		t.Errorf("amounts changed: %d", all)
	}
	all[0] = 10
	got, e := Total(list)
	must(t, "Total of changed amounts", got, e, 15, api.OK)
}
