package rate

import (
	"math"
	"math/big"
	"math/rand"
	"slices"
	"testing"

	"pontage/api"
	"pontage/money"
)

const (
	most    = money.Amount(api.MaxAmount)
	highest = Price(api.MaxPrice)
	million = uint64(1000000)
	full    = math.MaxUint64
)

// amounts are those at an end, those around a coin, and drawn ones of any size.
func amounts() []money.Amount {
	all := []money.Amount{0, 1, 2, 3, 2499, 2500, 7499, 7500, api.Coin - 1, api.Coin, api.Coin + 1, 3 * api.Coin / 2, 1 << 32, most / 2, most - 1, most}
	rnd := rand.New(rand.NewSource(1))
	for range 24 {
		all = append(all, money.Amount(rnd.Uint64()>>(2+rnd.Intn(62))))
	}
	return all
}

// prices are those at an end, those around a coin's parts, and drawn ones of any size.
func prices() []Price {
	all := []Price{1, 2, 3, 7, 5000, api.Coin - 1, api.Coin, api.Coin + 1, 3 * api.Coin, highest - 1, highest}
	rnd := rand.New(rand.NewSource(2))
	for range 12 {
		all = append(all, 1+Price(rnd.Uint64()>>(24+rnd.Intn(40))))
	}
	return all
}

// thresholds are those at an end, and between.
func thresholds() []uint64 {
	return []uint64{1, 2, 999, 1000, 1001, 1200, 1500, 2000, 123457, million - 1, million}
}

func wrongAmounts() []money.Amount {
	return []money.Amount{most + 1, most + 2, 1<<63 - 1, 1 << 63, full - 1, full}
}

func wrongPrices() []Price {
	return []Price{0, highest + 1, highest + 2, 1 << 60, 1 << 63, full - 1, full}
}

func wrongThresholds() []uint64 {
	return []uint64{0, million + 1, million + 2, 1 << 32, 1 << 63, full - 1, full}
}

func bigOf(x uint64) *big.Int {
	return new(big.Int).SetUint64(x)
}

func product(all ...uint64) *big.Int {
	p := bigOf(1)
	for _, x := range all {
		p.Mul(p, bigOf(x))
	}
	return p
}

// quotient answers what is to be answered, by the library: up by by, rounded down, or up, or ErrOver.
func quotient(up, by *big.Int, more bool) (money.Amount, api.Errno) {
	q, rest := new(big.Int).QuoRem(up, by, new(big.Int))
	if more && rest.Sign() > 0 {
		q.Add(q, bigOf(1))
	}
	if q.Cmp(bigOf(api.MaxAmount)) > 0 {
		return 0, api.ErrOver
	}
	return money.Amount(q.Uint64()), api.OK
}

// enough is the chapter's sentence, by the library.
func enough(collateral, parts money.Amount, p Price, t uint64) bool {
	has := product(uint64(collateral), api.Coin, 1000)
	return has.Cmp(product(uint64(parts), uint64(p), t)) >= 0
}

// must checks an answer: an amount and api.OK, or an error beside 0.
func must(t *testing.T, what string, got money.Amount, e api.Errno, want money.Amount, wanted api.Errno) {
	t.Helper()
	if got != want || e != wanted {
		t.Errorf("%s: %d, %d; want %d, %d", what, uint64(got), int(e), uint64(want), int(wanted))
	}
}

// P5.1

func TestRightOfPrices(t *testing.T) {
	for _, p := range prices() {
		if !p.Right() {
			t.Errorf("%d isn't a price", uint64(p))
		}
	}
	for _, p := range wrongPrices() {
		if p.Right() {
			t.Errorf("%d is a price", uint64(p))
		}
	}
}

func TestRightOfBands(t *testing.T) {
	for _, b := range []Bands{
		{1, 1, 1}, {2, 1, 1}, {2, 2, 1}, {3, 2, 1},
		{1000, 1000, 1000}, {2000, 1500, 1200}, {2000, 2000, 1200}, {2000, 1200, 1200},
		{million, 1, 1}, {million, million, 1}, {million, million, million}, {million, million - 1, million - 2},
	} {
		if !b.Right() {
			t.Errorf("%d aren't right", b)
		}
	}
	for _, b := range []Bands{
		{}, {1, 1, 0}, {1, 0, 0}, {2000, 1500, 0}, {2000, 0, 0},
		{1, 2, 1}, {1, 1, 2}, {2, 1, 2}, {1, 2, 2}, {1, 2, 3}, {1, 3, 2}, {2, 1, 3}, {2, 3, 1}, {3, 1, 2},
		{2000, 1200, 1500}, {1500, 2000, 1200}, {1200, 1500, 2000}, {1999, 2000, 2000}, {2000, 1999, 2000}, {0, 1500, 1200}, {2000, 0, 1200},
		{million + 1, 1, 1}, {million + 1, million + 1, 1}, {million + 1, million + 1, million + 1}, {1, million + 1, 1}, {1, 1, million + 1},
		{full, 1, 1}, {full, full, full}, {1 << 63, 1500, 1200}, {full, 1500, 0},
	} {
		if b.Right() {
			t.Errorf("%d are right", b)
		}
	}
}

func TestValueOfKnownParts(t *testing.T) {
	for _, c := range []struct {
		parts     money.Amount
		p         Price
		down, top money.Amount
	}{
		{api.Coin, 5000, 5000, 5000}, // the chapter's example
		{api.Coin / 2, 5000, 2500, 2500},
		{0, 1, 0, 0},
		{0, highest, 0, 0},
		{1, 1, 0, 1},
		{api.Coin - 1, 1, 0, 1},
		{api.Coin, 1, 1, 1},
		{api.Coin + 1, 1, 1, 2},
		{1, api.Coin - 1, 0, 1},
		{1, api.Coin, 1, 1},
		{1, api.Coin + 1, 1, 2},
		{19999, 5000, 0, 1},
		{20000, 5000, 1, 1},
		{20001, 5000, 1, 2},
		{1, highest, 10995, 10996},
		{api.Coin, highest, 1 << 40, 1 << 40},
		{most, 1, 46116860184, 46116860185},
		{most - 1, api.Coin, most - 1, most - 1},
		{most, api.Coin - 1, 4611685972310527719, 4611685972310527720},
		{most, api.Coin, most, most}, // up to MaxAmount
		{419430400000000, highest, most, most},
		{4611685972310528180, api.Coin + 1, most - 1, most}, // by rounding up alone
	} {
		got, e := Value(c.parts, c.p, false)
		must(t, "Value, rounded down", got, e, c.down, api.OK)
		got, e = Value(c.parts, c.p, true)
		must(t, "Value, rounded up", got, e, c.top, api.OK)
	}
}

func TestValueThatGoesBeyond(t *testing.T) {
	for _, c := range []struct {
		parts money.Amount
		p     Price
	}{
		{4611685972310528181, api.Coin + 1}, // by rounding up alone
		{4611685880076811502, api.Coin + 3},
	} {
		got, e := Value(c.parts, c.p, false)
		must(t, "Value, rounded down", got, e, most, api.OK)
		got, e = Value(c.parts, c.p, true)
		must(t, "Value, rounded up", got, e, 0, api.ErrOver)
	}
	for _, more := range []bool{false, true} {
		for _, c := range []struct {
			parts money.Amount
			p     Price
		}{
			{4611685972310528182, api.Coin + 1}, // one beyond
			{4611685880076811503, api.Coin + 3},
			{1537228667685033743, 3*api.Coin + 1},
			{419430400000001, highest},
			{1677721600000000, highest}, // 2^64: its lowest word is 0
			{most, api.Coin + 1},
			{most, highest},
		} {
			got, e := Value(c.parts, c.p, more)
			must(t, "Value", got, e, 0, api.ErrOver)
		}
	}
}

func TestPartsOfKnownCollateral(t *testing.T) {
	for _, c := range []struct {
		value money.Amount
		p     Price
		want  money.Amount
	}{
		{5000, 5000, api.Coin},
		{2500, 5000, api.Coin / 2},
		{0, 1, 0},
		{0, highest, 0},
		{1, 1, api.Coin},
		{1, 3, 33333333},
		{2, 3, 66666666},
		{1, api.Coin, 1},
		{1, api.Coin + 1, 0},
		{1, highest, 0},
		{10995, highest, 0},
		{10996, highest, 1},
		{1 << 40, highest, api.Coin},
		{most, highest, 419430400000000},
		{most, api.Coin, most}, // up to MaxAmount
		{46116860184, 1, most - 27387904},
		{2305843009213693952, api.Coin / 2, most},
		{4611685972310527719, api.Coin - 1, most - 1},
		{4611685972310527720, api.Coin - 1, most}, // rounded down
		{4611685695609366615, api.Coin - 7, most},
	} {
		got, e := Parts(c.value, c.p)
		must(t, "Parts", got, e, c.want, api.OK)
	}
}

func TestPartsThatGoBeyond(t *testing.T) {
	for _, c := range []struct {
		value money.Amount
		p     Price
	}{
		{4611685972310527721, api.Coin - 1}, // one beyond
		{4611685695609366616, api.Coin - 7},
		{2305843009213693953, api.Coin / 2},
		{46116860185, 1},
		{230584300921370, 5000},
		{1 << 56, 1}, // a multiple of 2^64
		{most, api.Coin - 1},
		{most, 1},
	} {
		got, e := Parts(c.value, c.p)
		must(t, "Parts", got, e, 0, api.ErrOver)
	}
}

func TestValueAndPartsAreTheLibrarys(t *testing.T) {
	for _, a := range amounts() {
		for _, p := range prices() {
			for _, more := range []bool{false, true} {
				want, wanted := quotient(product(uint64(a), uint64(p)), bigOf(api.Coin), more)
				got, e := Value(a, p, more)
				must(t, "Value", got, e, want, wanted)
			}
			want, wanted := quotient(product(uint64(a), api.Coin), bigOf(uint64(p)), false)
			got, e := Parts(a, p)
			must(t, "Parts", got, e, want, wanted)
		}
	}
}

// near are amounts around up by by, as far as these are amounts.
func near(up, by *big.Int) []money.Amount {
	first := new(big.Int).Sub(new(big.Int).Quo(up, by), bigOf(2))
	var all []money.Amount
	for step := range uint64(5) {
		a := new(big.Int).Add(first, bigOf(step))
		if a.Sign() >= 0 && a.Cmp(bigOf(api.MaxAmount)) <= 0 {
			all = append(all, money.Amount(a.Uint64()))
		}
	}
	return all
}

func TestValueAndPartsWhereTheyComeToTheEnd(t *testing.T) {
	for _, p := range prices() {
		for _, a := range near(product(api.MaxAmount, api.Coin), bigOf(uint64(p))) {
			for _, more := range []bool{false, true} {
				want, wanted := quotient(product(uint64(a), uint64(p)), bigOf(api.Coin), more)
				got, e := Value(a, p, more)
				must(t, "Value", got, e, want, wanted)
			}
		}
		for _, a := range near(product(api.MaxAmount, uint64(p)), bigOf(api.Coin)) {
			want, wanted := quotient(product(uint64(a), api.Coin), bigOf(uint64(p)), false)
			got, e := Parts(a, p)
			must(t, "Parts", got, e, want, wanted)
		}
	}
}

// mustValueArg checks that Value and Parts take neither of these.
func mustValueArg(t *testing.T, a money.Amount, p Price) {
	t.Helper()
	for _, more := range []bool{false, true} {
		got, e := Value(a, p, more)
		must(t, "Value", got, e, 0, api.ErrArg)
	}
	got, e := Parts(a, p)
	must(t, "Parts", got, e, 0, api.ErrArg)
}

func TestValueAndPartsOfWhatIsntRight(t *testing.T) {
	for _, wrong := range wrongAmounts() {
		for _, p := range append(prices(), wrongPrices()...) {
			mustValueArg(t, wrong, p)
		}
	}
	for _, wrong := range wrongPrices() {
		for _, a := range append(amounts(), wrongAmounts()...) {
			mustValueArg(t, a, wrong)
		}
	}
}

// P5.2

func TestEnoughOfKnownCollateral(t *testing.T) {
	for _, c := range []struct {
		least, parts money.Amount // the least collateral that is enough
		p            Price
		threshold    uint64
	}{
		{7500, api.Coin, 5000, 1500}, // the chapter's example
		{5000, api.Coin, 5000, 1000},
		{5, api.Coin, 5000, 1},
		{6, api.Coin, 5001, 1},
		{5000000, api.Coin, 5000, million},
		{1, 1, 1, 1},
		{1, 1, 1, million},
		{1, 100000, 1, million},
		{2, 100001, 1, million},
		{1, api.Coin, 1, 1000},
		{2, api.Coin, 1, 1001},
		{2, api.Coin + 1, 1, 1000},
		{1, 1, api.Coin, 1000},
		{2, 1, api.Coin, 1001},
		{2, 1, api.Coin + 1, 1000},
		{10995117, 1, highest, million},
		{10995106, 1, highest, million - 1},
		{46116861, most, 1, 1},
		{46116860184274, most, 1, million},
		{most, most, api.Coin, 1000},
		{most - 1, most - 1, api.Coin, 1000},
		{most, 4607078939487900003, api.Coin, 1001},
		{most, 4611685972310528180, api.Coin + 1, 1000},
		{most, 419430400000, highest, million},
	} {
		if !Enough(c.least, c.parts, c.p, c.threshold) {
			t.Errorf("%+v: it isn't enough", c)
		}
		if Enough(c.least-1, c.parts, c.p, c.threshold) {
			t.Errorf("%+v: one less is enough", c)
		}
	}
}

func TestEnoughAtItsEnds(t *testing.T) {
	for _, p := range prices() {
		for _, threshold := range thresholds() {
			for _, a := range amounts() {
				if !Enough(a, 0, p, threshold) {
					t.Errorf("%d isn't enough for nothing at %d by %d", uint64(a), uint64(p), threshold)
				}
				if a > 0 && Enough(0, a, p, threshold) {
					t.Errorf("nothing is enough for %d at %d by %d", uint64(a), uint64(p), threshold)
				}
			}
		}
	}
	if Enough(most, most, highest, million) {
		t.Error("MaxAmount is enough for MaxAmount at MaxPrice by 10^6")
	}
	if Enough(most, 419430400001, highest, million) {
		t.Error("MaxAmount is enough for more than it is")
	}
	if !Enough(most, most, 1, 1) {
		t.Error("MaxAmount isn't enough for MaxAmount at 1 by 1")
	}
}

func TestEnoughIsTheLibrarys(t *testing.T) {
	for _, parts := range amounts() {
		for _, p := range prices() {
			for _, threshold := range thresholds() {
				up := product(uint64(parts), uint64(p), threshold)
				for _, c := range append(near(up, bigOf(100000000000)), amounts()...) {
					if got := Enough(c, parts, p, threshold); got != enough(c, parts, p, threshold) {
						t.Fatalf("Enough of %d for %d at %d by %d: %t", uint64(c), uint64(parts), uint64(p), threshold, got)
					}
				}
			}
		}
	}
}

// four is one case of Enough's arguments.
type four struct {
	collateral, parts money.Amount
	p                 Price
	threshold         uint64
}

// wrongFours are arguments of which one or several aren't right, though it would be enough of them.
func wrongFours() []four {
	collaterals := append(wrongAmounts(), 1, most)
	parts := append(wrongAmounts(), 0, 1)
	some := append(wrongPrices(), 1, highest)
	marks := append(wrongThresholds(), 1, million)
	var all []four
	for _, c := range collaterals {
		for _, a := range parts {
			for _, p := range some {
				for _, m := range marks {
					wrong := slices.Contains(wrongAmounts(), c) || slices.Contains(wrongAmounts(), a) ||
						slices.Contains(wrongPrices(), p) || slices.Contains(wrongThresholds(), m)
					if wrong {
						all = append(all, four{c, a, p, m})
					}
				}
			}
		}
	}
	return all
}

func TestEnoughOfWhatIsntRight(t *testing.T) {
	for _, c := range wrongFours() {
		if Enough(c.collateral, c.parts, c.p, c.threshold) {
			t.Errorf("%+v: it is enough", c)
		}
	}
}

// mustBand checks an answer of Of: a band and api.OK, or an error beside 0.
func mustBand(t *testing.T, b Bands, collateral, parts money.Amount, p Price, want int, wanted api.Errno) {
	t.Helper()
	got, e := b.Of(collateral, parts, p)
	if got != want || e != wanted {
		t.Errorf("%d, of %d for %d at %d: %d, %d; want %d, %d", b, uint64(collateral), uint64(parts), uint64(p), got, int(e), want, int(wanted))
	}
}

func TestBandsAreNumbered(t *testing.T) {
	if Secure != 0 || Premium != 1 || Watched != 2 || Low != 3 {
		t.Error(Secure, Premium, Watched, Low)
	}
}

func TestOfKnownCollateral(t *testing.T) {
	b := Bands{Secure: 2000, Premium: 1500, Low: 1200}
	for _, c := range []struct {
		collateral money.Amount
		band       int
	}{
		{most, Secure}, {20000, Secure}, {10001, Secure}, {10000, Secure},
		{9999, Premium}, {8000, Premium}, {7501, Premium}, {7500, Premium},
		{7499, Watched}, {7000, Watched}, {6001, Watched}, {6000, Watched},
		{5999, Low}, {5000, Low}, {1, Low}, {0, Low},
	} {
		mustBand(t, b, c.collateral, api.Coin, 5000, c.band, api.OK)
	}
}

func TestOfThresholdsThatAreEqual(t *testing.T) {
	for _, c := range []struct {
		b             Bands
		above, at     int
		less, further int
	}{
		{Bands{1500, 1500, 1500}, Secure, Secure, Low, Low},
		{Bands{1500, 1500, 1200}, Secure, Secure, Watched, Low},
		{Bands{2000, 1500, 1500}, Premium, Premium, Low, Low},
		{Bands{1000000, 1500, 1}, Premium, Premium, Watched, Watched},
	} {
		mustBand(t, c.b, 7501, api.Coin, 5000, c.above, api.OK)
		mustBand(t, c.b, 7500, api.Coin, 5000, c.at, api.OK)
		mustBand(t, c.b, 7499, api.Coin, 5000, c.less, api.OK)
		mustBand(t, c.b, 5999, api.Coin, 5000, c.further, api.OK)
	}
}

func TestOfAtItsEnds(t *testing.T) {
	widest := Bands{million, 1000, 1}
	mustBand(t, widest, 0, 0, 1, Secure, api.OK)
	mustBand(t, widest, 0, 0, highest, Secure, api.OK)
	mustBand(t, widest, most, 0, highest, Secure, api.OK)
	mustBand(t, widest, 0, 1, 1, Low, api.OK)
	mustBand(t, widest, 0, most, highest, Low, api.OK)
	mustBand(t, widest, most, most, 1, Secure, api.OK)
	mustBand(t, widest, most, most, api.Coin, Premium, api.OK)
	mustBand(t, widest, most-1, most, api.Coin, Watched, api.OK)
	mustBand(t, widest, most, most, api.Coin+1, Watched, api.OK)
	mustBand(t, widest, most, most, highest, Low, api.OK)
	mustBand(t, widest, most, 419430400000, highest, Secure, api.OK)
	mustBand(t, widest, most, 419430400001, highest, Premium, api.OK)
	mustBand(t, widest, most, 419430400000000, highest, Premium, api.OK)
	mustBand(t, widest, most, 419430400000001, highest, Watched, api.OK)
	mustBand(t, widest, most, 419430400000000000, highest, Watched, api.OK)
	mustBand(t, widest, most, 419430400000000001, highest, Low, api.OK)
}

// bandOf answers what Of is to answer, by the library.
func bandOf(b Bands, collateral, parts money.Amount, p Price) int {
	for band, threshold := range []uint64{b.Secure, b.Premium, b.Low} {
		if enough(collateral, parts, p, threshold) {
			return band
		}
	}
	return 3
}

func TestOfOnBothSidesOfEachBorder(t *testing.T) {
	for _, b := range []Bands{{2000, 1500, 1200}, {1500, 1500, 1200}, {1500, 1200, 1200}, {1, 1, 1}, {3, 2, 1}, {million, 1000, 1}, {million, million, million}} {
		for _, parts := range amounts() {
			for _, p := range prices() {
				for _, threshold := range []uint64{b.Secure, b.Premium, b.Low} {
					for _, c := range near(product(uint64(parts), uint64(p), threshold), bigOf(100000000000)) {
						mustBand(t, b, c, parts, p, bandOf(b, c, parts, p), api.OK)
					}
				}
			}
		}
	}
}

func TestOfIsTheLibrarys(t *testing.T) {
	b := Bands{2000, 1500, 1200}
	for _, c := range amounts() {
		for _, parts := range amounts() {
			for _, p := range prices() {
				mustBand(t, b, c, parts, p, bandOf(b, c, parts, p), api.OK)
			}
		}
	}
}

func TestOfWhatIsntRight(t *testing.T) {
	b := Bands{2000, 1500, 1200}
	for _, wrong := range []Bands{{}, {2000, 1500, 0}, {1500, 2000, 1200}, {2000, 1200, 1500}, {1200, 1500, 2000}, {million + 1, 1500, 1200}, {full, full, full}} {
		mustBand(t, wrong, 10000, api.Coin, 5000, 0, api.ErrArg)
		mustBand(t, wrong, 0, 0, 1, 0, api.ErrArg)
		mustBand(t, wrong, 0, most, highest, 0, api.ErrArg)
		mustBand(t, wrong, full, api.Coin, 5000, 0, api.ErrArg)
		mustBand(t, wrong, 10000, full, 5000, 0, api.ErrArg)
		mustBand(t, wrong, 10000, api.Coin, 0, 0, api.ErrArg)
		mustBand(t, wrong, full, full, full, 0, api.ErrArg)
	}
	for _, wrong := range wrongAmounts() {
		for _, other := range append(amounts(), wrongAmounts()...) {
			mustBand(t, b, wrong, other, 5000, 0, api.ErrArg)
			mustBand(t, b, other, wrong, 5000, 0, api.ErrArg)
		}
		mustBand(t, b, wrong, api.Coin, 0, 0, api.ErrArg)
		mustBand(t, b, api.Coin, wrong, highest+1, 0, api.ErrArg)
	}
	for _, wrong := range wrongPrices() {
		for _, a := range amounts() {
			mustBand(t, b, a, api.Coin, wrong, 0, api.ErrArg)
			mustBand(t, b, api.Coin, a, wrong, 0, api.ErrArg)
		}
	}
}

func TestNeedsOfKnownParts(t *testing.T) {
	for _, c := range []struct {
		parts     money.Amount
		p         Price
		threshold uint64
		want      money.Amount
		e         api.Errno
	}{
		{api.Coin, 5000, 1500, 7500, api.OK}, // the chapter's example
		{api.Coin, 5000, 1000, 5000, api.OK},
		{api.Coin / 2, 5000, 1500, 3750, api.OK},
		{0, 1, 1, 0, api.OK},
		{0, highest, million, 0, api.OK},
		{1, 1, 1, 1, api.OK}, // rounded up
		{1, 5000, 1500, 1, api.OK},
		{100000, 1, million, 1, api.OK},
		{100001, 1, million, 2, api.OK},
		{api.Coin - 1, 5000, 1500, 7500, api.OK},
		{api.Coin + 1, 5000, 1500, 7501, api.OK},
		{api.Coin, 1, 1, 1, api.OK},
		{api.Coin, 1, 1001, 2, api.OK},
		{1, highest, million, 10995117, api.OK},
		{most, 1, 1, 46116861, api.OK},
		{most, 1, million, 46116860184274, api.OK},
		{most, api.Coin, 1000, most, api.OK}, // up to MaxAmount
		{most, api.Coin, 999, 4607074332408960517, api.OK},
		{4607078939487900002, api.Coin, 1001, most - 1, api.OK},
		{4607078939487900003, api.Coin, 1001, most, api.OK},
		{4611685972310528180, api.Coin + 1, 1000, most, api.OK},
		{419430400000, highest, million, most, api.OK},
		{4607078939487900004, api.Coin, 1001, 0, api.ErrOver},     // one beyond by rounding up alone
		{4611685972310528181, api.Coin + 1, 1000, 0, api.ErrOver}, // so too
		{4607078939487900005, api.Coin, 1001, 0, api.ErrOver},     // one beyond, however it is rounded
		{4611685972310528182, api.Coin + 1, 1000, 0, api.ErrOver},
		{419430400001, highest, million, 0, api.ErrOver},
		{1677721600000, highest, million, 0, api.ErrOver}, // 2^64: its lowest word is 0
		{most, api.Coin, 1001, 0, api.ErrOver},
		{most, api.Coin + 1, 1000, 0, api.ErrOver},
		{most, highest, million, 0, api.ErrOver},
	} {
		got, e := Needs(c.parts, c.p, c.threshold)
		must(t, "Needs", got, e, c.want, c.e)
	}
}

func TestRoomOfKnownCollateral(t *testing.T) {
	for _, c := range []struct {
		collateral money.Amount
		p          Price
		threshold  uint64
		want       money.Amount
		e          api.Errno
	}{
		{7500, 5000, 1500, api.Coin, api.OK}, // the chapter's example
		{7499, 5000, 1500, 99986666, api.OK}, // rounded down
		{3750, 5000, 1500, api.Coin / 2, api.OK},
		{5000, 5000, 1000, api.Coin, api.OK},
		{0, 1, 1, 0, api.OK},
		{0, highest, million, 0, api.OK},
		{1, 1, 1, 100000000000, api.OK},
		{1, 1, million, 100000, api.OK},
		{1, 1, 1500, 66666666, api.OK},
		{1, highest, million, 0, api.OK},
		{10995116, highest, million, 0, api.OK},
		{10995117, highest, million, 1, api.OK},
		{most, highest, million, 419430400000, api.OK},
		{most, api.Coin, 1000, most, api.OK}, // up to MaxAmount
		{most, api.Coin, 1001, 4607078939487900003, api.OK},
		{46116860, 1, 1, 4611686000000000000, api.OK},
		{4607074332408960517, api.Coin, 999, most, api.OK},
		{4611685972310527720, api.Coin - 1, 1000, most, api.OK},
		{4607074332408960518, api.Coin, 999, 0, api.ErrOver}, // one beyond
		{4611685972310527721, api.Coin - 1, 1000, 0, api.ErrOver},
		{461168601842739, 5000, 2000, 0, api.ErrOver},
		{46116861, 1, 1, 0, api.ErrOver},
		{1 << 53, 1, 1, 0, api.ErrOver}, // a multiple of 2^64
		{most, api.Coin, 999, 0, api.ErrOver},
		{most, api.Coin - 1, 1000, 0, api.ErrOver},
		{most, 1, 1, 0, api.ErrOver},
	} {
		got, e := Room(c.collateral, c.p, c.threshold)
		must(t, "Room", got, e, c.want, c.e)
	}
}

func TestNeedsAndRoomAreTheLibrarys(t *testing.T) {
	mille := bigOf(100000000000) // thousandths of a coin's parts
	for _, p := range prices() {
		for _, threshold := range thresholds() {
			asked := product(uint64(p), threshold)
			borders := append(near(new(big.Int).Mul(bigOf(api.MaxAmount), mille), asked), amounts()...)
			for _, parts := range borders {
				want, wanted := quotient(new(big.Int).Mul(bigOf(uint64(parts)), asked), mille, true)
				got, e := Needs(parts, p, threshold)
				must(t, "Needs", got, e, want, wanted)
			}
			borders = append(near(new(big.Int).Mul(bigOf(api.MaxAmount), asked), mille), amounts()...)
			for _, c := range borders {
				want, wanted := quotient(new(big.Int).Mul(bigOf(uint64(c)), mille), asked, false)
				got, e := Room(c, p, threshold)
				must(t, "Room", got, e, want, wanted)
			}
		}
	}
}

// mustNeedsArg checks that Needs and Room take none of these.
func mustNeedsArg(t *testing.T, a money.Amount, p Price, threshold uint64) {
	t.Helper()
	got, e := Needs(a, p, threshold)
	must(t, "Needs", got, e, 0, api.ErrArg)
	got, e = Room(a, p, threshold)
	must(t, "Room", got, e, 0, api.ErrArg)
}

func TestNeedsAndRoomOfWhatIsntRight(t *testing.T) {
	for _, wrong := range wrongAmounts() {
		mustNeedsArg(t, wrong, 5000, 1500)
		mustNeedsArg(t, wrong, 1, 1)
		mustNeedsArg(t, wrong, highest, million)
		mustNeedsArg(t, wrong, 0, 1500)
		mustNeedsArg(t, wrong, 5000, 0)
	}
	for _, a := range amounts() {
		for _, wrong := range wrongPrices() {
			mustNeedsArg(t, a, wrong, 1500)
			mustNeedsArg(t, a, wrong, 0)
		}
		for _, wrong := range wrongThresholds() {
			mustNeedsArg(t, a, 5000, wrong)
			mustNeedsArg(t, a, highest, wrong)
		}
	}
	for _, c := range wrongFours() {
		if c.parts == 0 { // so that it is another one that isn't right
			mustNeedsArg(t, c.collateral, c.p, c.threshold)
		}
	}
}

// P5.3

func TestNeedsIsEnoughAndOneLessIsnt(t *testing.T) {
	told := 0
	for _, p := range prices() {
		for _, threshold := range thresholds() {
			border := near(product(api.MaxAmount, 100000000000), product(uint64(p), threshold))
			for _, parts := range append(border, amounts()...) {
				needs, e := Needs(parts, p, threshold)
				if e != api.OK {
					continue
				}
				told++
				if !Enough(needs, parts, p, threshold) {
					t.Errorf("%d isn't enough for %d at %d by %d", uint64(needs), uint64(parts), uint64(p), threshold)
				}
				if needs > 0 && Enough(needs-1, parts, p, threshold) {
					t.Errorf("one less than %d is enough for %d at %d by %d", uint64(needs), uint64(parts), uint64(p), threshold)
				}
				if needs == 0 && parts > 0 {
					t.Errorf("%d need nothing at %d by %d", uint64(parts), uint64(p), threshold)
				}
			}
		}
	}
	if told < 1000 {
		t.Errorf("only %d were told", told)
	}
}

func TestRoomHasEnoughAndOneMoreHasnt(t *testing.T) {
	told := 0
	for _, p := range prices() {
		for _, threshold := range thresholds() {
			border := near(product(api.MaxAmount, uint64(p), threshold), bigOf(100000000000))
			for _, c := range append(border, amounts()...) {
				room, e := Room(c, p, threshold)
				if e != api.OK {
					continue
				}
				told++
				if !Enough(c, room, p, threshold) {
					t.Errorf("%d isn't enough for %d at %d by %d", uint64(c), uint64(room), uint64(p), threshold)
				}
				if Enough(c, room+1, p, threshold) {
					t.Errorf("%d is enough for one more than %d at %d by %d", uint64(c), uint64(room), uint64(p), threshold)
				}
			}
		}
	}
	if told < 1000 {
		t.Errorf("only %d were told", told)
	}
}

func TestNeedsAndRoomAreBeyondOnlyWhereNoAmountDoes(t *testing.T) {
	for _, p := range prices() {
		for _, threshold := range thresholds() {
			for _, a := range amounts() {
				if _, e := Needs(a, p, threshold); e == api.ErrOver && Enough(most, a, p, threshold) {
					t.Errorf("Needs of %d at %d by %d isn't told, though MaxAmount is enough", uint64(a), uint64(p), threshold)
				}
				if _, e := Room(a, p, threshold); e == api.ErrOver && !Enough(a, most, p, threshold) {
					t.Errorf("Room of %d at %d by %d isn't told, though it isn't enough for MaxAmount", uint64(a), uint64(p), threshold)
				}
			}
		}
	}
}

func TestBandsAreNotChanged(t *testing.T) {
	for _, before := range []Bands{{2000, 1500, 1200}, {1200, 1500, 2000}, {}, {full, full, full}} {
		b := before
		b.Right()
		b.Of(7500, api.Coin, 5000)
		b.Of(full, full, full)
		if b != before {
			t.Errorf("%d became %d", before, b)
		}
	}
}

func TestAnswersHangOnArgumentsAlone(t *testing.T) {
	b := Bands{2000, 1500, 1200}
	for range 3 {
		got, e := Value(api.Coin/2, 5000, false)
		must(t, "Value", got, e, 2500, api.OK)
		got, e = Parts(2500, 5000)
		must(t, "Parts", got, e, api.Coin/2, api.OK)
		got, e = Needs(api.Coin, 5000, 1500)
		must(t, "Needs", got, e, 7500, api.OK)
		got, e = Room(7500, 5000, 1500)
		must(t, "Room", got, e, api.Coin, api.OK)
		mustBand(t, b, 7500, api.Coin, 5000, Premium, api.OK)
		b = Bands{1500, 1000, 1}
		mustBand(t, b, 7500, api.Coin, 5000, Secure, api.OK)
		b = Bands{}
		mustBand(t, b, 7500, api.Coin, 5000, 0, api.ErrArg)
		b = Bands{2000, 1500, 1200}
		Value(full, full, true)
		Parts(1, 7)
		Needs(most, highest, million)
		Room(most, 1, 1)
		Enough(full, 0, 0, full)
	}
}
