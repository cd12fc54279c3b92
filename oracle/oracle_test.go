package oracle

import (
	"fmt"
	"math"
	"math/rand"
	"sort"
	"testing"

	"pontage/api"
	"pontage/rate"
)

const (
	highest = rate.Price(1 << 40)
	latest  = uint64(1 << 40)
	full    = uint64(math.MaxUint64)
)

// moves and ages are right ones, those at the ends among them.
func moves() []uint64 {
	return []uint64{0, 1, 2, 100, 333, 500, 999, 1000}
}

func ages() []uint64 {
	return []uint64{0, 1, 5, 1000, latest - 1, latest}
}

func wrongMoves() []uint64 {
	return []uint64{1001, 1002, 1 << 16, 1 << 32, latest, 1 << 63, full - 1, full}
}

func wrongAges() []uint64 {
	return []uint64{latest + 1, latest + 2, 1 << 41, 1<<63 - 1, 1 << 63, full - 1, full}
}

// prices are right ones, those at the ends and those around a thousand among them.
func prices() []rate.Price {
	return []rate.Price{1, 2, 3, 9, 10, 11, 499, 999, 1000, 1001, 5000, api.Coin, highest/2 - 1, highest / 2, highest/2 + 1, highest - 1, highest}
}

func wrongPrices() []rate.Price {
	return []rate.Price{0, highest + 1, highest + 2, 1 << 41, 1<<63 - 1, 1 << 63, rate.Price(full) - 1, rate.Price(full)}
}

// ticks are right ones, those at the ends among them.
func ticks() []uint64 {
	return []uint64{0, 1, 2, 1000, 1 << 32, latest - 1, latest}
}

func wrongTicks() []uint64 {
	return []uint64{latest + 1, latest + 2, 1 << 41, 1<<63 - 1, 1 << 63, full - 1, full}
}

// told is a price that was taken, and when.
type told struct {
	price rate.Price
	tick  uint64
}

// record is a feed's rules, the last one of what was taken, and how many were: a feed without bounds, that weighs each price against the last one.
type record struct {
	rules Rules
	taken int
	told
}

func (m *record) last() (told, bool) {
	return m.told, m.taken > 0
}

// near: is a right price away from the last one by no more than Move thousandths of that? (As prices are whole, so is what they are away by: rounding the thousandths down makes no difference.)
func (m *record) near(p rate.Price) bool {
	last, ok := m.last()
	if !ok {
		return true
	}
	away := last.price - p
	if p > last.price {
		away = p - last.price
	}
	return uint64(away)*1000 <= uint64(last.price)*m.rules.Move
}

// bounds answers the least right price that is near, and the greatest one.
func (m *record) bounds() (low, high rate.Price) {
	last, ok := m.last()
	if !ok {
		return 1, highest
	}
	down := sort.Search(int(last.price-1), func(n int) bool { return !m.near(last.price - rate.Price(n) - 1) })
	up := sort.Search(int(highest-last.price), func(n int) bool { return !m.near(last.price + rate.Price(n) + 1) })
	return last.price - rate.Price(down), last.price + rate.Price(up)
}

func (m *record) set(p rate.Price, now uint64) api.Errno {
	last, ok := m.last()
	switch {
	case p < 1 || p > highest || now > latest:
		return api.ErrArg
	case ok && now <= last.tick:
		return api.ErrTime
	case !m.near(p):
		return api.ErrMove
	}
	m.told = told{p, now}
	m.taken++
	return api.OK
}

func (m *record) price(now uint64) (rate.Price, api.Errno) {
	last, ok := m.last()
	switch {
	case !ok:
		return 0, api.ErrNone
	case now < last.tick:
		return 0, api.ErrTime
	case last.tick+m.rules.Age < now: // of right rules and ticks, so it doesn't go round
		return 0, api.ErrStale
	}
	return last.price, api.OK
}

// pair is a feed, and a record that is told the same.
type pair struct {
	t      testing.TB
	feed   *Feed
	record record
}

// begin is a pair without a price.
func begin(t testing.TB, r Rules) *pair {
	t.Helper()
	f, e := New(r)
	if f == nil || e != api.OK {
		t.Fatalf("New(%d): %v, %d", r, f, int(e))
	}
	p := &pair{t: t, feed: f, record: record{rules: r}}
	p.mustBeAsRecord("New")
	return p
}

// with is a pair that was told these prices.
func with(t testing.TB, r Rules, l ...told) *pair {
	t.Helper()
	p := begin(t, r)
	for _, x := range l {
		p.must(p.set(x.price, x.tick), api.OK)
	}
	return p
}

// apart is a pair of a copy of the feed, and one of the record.
func (p *pair) apart() *pair {
	p.t.Helper()
	q := &pair{t: p.t, feed: p.feed.Copy(), record: p.record}
	if q.feed == nil || q.feed == p.feed {
		p.t.Fatal("Copy: none, or the same one")
	}
	q.mustBeAsRecord("Copy")
	p.mustBeAsRecord("what was copied")
	return q
}

// moments are ticks around those at which an answer changes.
func (m *record) moments() []uint64 {
	last, _ := m.last()
	end := last.tick + m.rules.Age
	all := append(ticks(), wrongTicks()...)
	return append(all, last.tick-1, last.tick, last.tick+1, end-1, end, end+1) // one less goes round where there is none
}

// mustBeAsRecord checks all that a feed tells.
func (p *pair) mustBeAsRecord(what string) {
	p.t.Helper()
	want, ok := p.record.last()
	if last, tick, is := p.feed.Last(); (told{last, tick}) != want || is != ok {
		p.t.Fatalf("%s: Last: %d, %d, %t; want %d, %t", what, last, tick, is, want, ok)
	}
	wantLow, wantHigh := p.record.bounds()
	if low, high := p.feed.Bounds(); low != wantLow || high != wantHigh {
		p.t.Fatalf("%s: Bounds: %d, %d; want %d, %d", what, low, high, wantLow, wantHigh)
	}
	for _, now := range p.record.moments() {
		price, e := p.feed.Price(now)
		if want, wanted := p.record.price(now); price != want || e != wanted {
			p.t.Fatalf("%s: Price(%d): %d, %d; want %d, %d", what, now, price, int(e), want, int(wanted))
		}
	}
}

// set tells both the same, and checks what they answer, and all that is told behind that.
func (p *pair) set(price rate.Price, now uint64) api.Errno {
	p.t.Helper()
	what := fmt.Sprintf("Set(%d, %d)", price, now)
	e := p.feed.Set(price, now)
	if want := p.record.set(price, now); e != want {
		p.t.Fatalf("%s: %d, want %d", what, int(e), int(want))
	}
	p.mustBeAsRecord(what)
	return e
}

// must checks an error by hand.
func (p *pair) must(e, want api.Errno) {
	p.t.Helper()
	if e != want {
		p.t.Errorf("%d, want %d", int(e), int(want))
	}
}

// mustTell checks by hand what a feed with a price tells of it.
func (p *pair) mustTell(want told, low, high rate.Price) {
	p.t.Helper()
	if last, tick, ok := p.feed.Last(); (told{last, tick}) != want || !ok {
		p.t.Errorf("Last: %d, %d, %t; want %d, true", last, tick, ok, want)
	}
	if l, h := p.feed.Bounds(); l != low || h != high {
		p.t.Errorf("Bounds: %d, %d; want %d, %d", l, h, low, high)
	}
}

// mustTellNone checks by hand what a feed without a price tells.
func (p *pair) mustTellNone() {
	p.t.Helper()
	if last, tick, ok := p.feed.Last(); last != 0 || tick != 0 || ok {
		p.t.Errorf("Last: %d, %d, %t", last, tick, ok)
	}
	if low, high := p.feed.Bounds(); low != 1 || high != highest {
		p.t.Errorf("Bounds: %d, %d", low, high)
	}
	for _, now := range append(ticks(), wrongTicks()...) {
		p.mustPrice(now, 0, api.ErrNone)
	}
}

// mustPrice checks a price by hand.
func (p *pair) mustPrice(now uint64, want rate.Price, wanted api.Errno) {
	p.t.Helper()
	if price, e := p.feed.Price(now); price != want || e != wanted {
		p.t.Errorf("Price(%d): %d, %d; want %d, %d", now, price, int(e), want, int(wanted))
	}
}

// mustTakeJust checks that of right prices, at a later tick, a feed takes just those between its bounds: of these around both, and of others.
func (p *pair) mustTakeJust(others ...rate.Price) {
	p.t.Helper()
	low, high := p.feed.Bounds()
	if low < 1 || low > high || high > highest {
		p.t.Fatalf("Bounds: %d, %d", low, high)
	}
	last, tick, ok := p.feed.Last()
	if ok && (tick == latest || last < low || last > high) {
		p.t.Fatalf("Bounds: %d, %d of %d at %d", low, high, last, tick)
	}
	for _, price := range append(others, 1, low-1, low, low+1, high-1, high, high+1, highest) {
		if price < 1 || price > highest {
			continue
		}
		want := api.OK
		if price < low || price > high {
			want = api.ErrMove
		}
		if e := p.feed.Copy().Set(price, tick+1); e != want {
			p.t.Fatalf("Set(%d): %d, want %d, of Bounds %d, %d", price, int(e), int(want), low, high)
		}
	}
}

// P17.1: the chapter's example, and New

func TestExample(t *testing.T) {
	f, e := New(Rules{Move: 100, Age: 5})
	if e != api.OK || f.Set(1000, 0) != api.OK {
		t.Fatal("New, or Set")
	}
	if low, high := f.Bounds(); low != 900 || high != 1100 {
		t.Errorf("Bounds: %d, %d", low, high)
	}
	for price := range rate.Price(3000) {
		ok := f.Copy().Set(price, 1) == api.OK
		if want := price >= 900 && price <= 1100; ok != want {
			t.Errorf("Set(%d): %t", price, ok)
		}
	}
}

func TestNewByRightRules(t *testing.T) {
	for _, move := range moves() {
		for _, age := range ages() {
			begin(t, Rules{move, age}).mustTellNone()
		}
	}
}

func TestNewByWrongRules(t *testing.T) {
	mustRefuse := func(r Rules) {
		t.Helper()
		if f, e := New(r); f != nil || e != api.ErrArg {
			t.Errorf("New(%d): %v, %d", r, f, int(e))
		}
	}
	for _, move := range wrongMoves() {
		for _, age := range append(ages(), wrongAges()...) {
			mustRefuse(Rules{move, age})
		}
	}
	for _, move := range moves() {
		for _, age := range wrongAges() {
			mustRefuse(Rules{move, age})
		}
	}
}

// The rules are what they were when New was called.
func TestNewKeepsNoRules(t *testing.T) {
	r := Rules{Move: 100, Age: 5}
	f, _ := New(r)
	if r != (Rules{Move: 100, Age: 5}) {
		t.Errorf("New: %d", r)
	}
	r = Rules{Move: 500, Age: 9}
	p := &pair{t: t, feed: f, record: record{rules: Rules{Move: 100, Age: 5}}}
	p.must(p.set(1000, 3), api.OK)
	p.mustTell(told{1000, 3}, 900, 1100)
	p.mustPrice(9, 0, api.ErrStale)
}

func TestNewOnesAreApart(t *testing.T) {
	p, q := begin(t, Rules{100, 5}), begin(t, Rules{100, 5})
	p.must(p.set(1000, 3), api.OK)
	q.mustTellNone()
	q.must(q.set(50, 1), api.OK)
	p.mustTell(told{1000, 3}, 900, 1100)
	q.mustTell(told{50, 1}, 45, 55)
}

// P17.1: the first price

func TestFirstPriceIsAny(t *testing.T) {
	for _, move := range moves() {
		for _, price := range prices() {
			for _, now := range ticks() {
				p := begin(t, Rules{move, 5})
				p.must(p.set(price, now), api.OK)
				if last, tick, ok := p.feed.Last(); last != price || tick != now || !ok {
					t.Errorf("Last: %d, %d, %t; want %d, %d", last, tick, ok, price, now)
				}
			}
		}
	}
}

func TestFirstPriceThatIsWrong(t *testing.T) {
	p := begin(t, Rules{100, latest})
	for _, now := range append(ticks(), wrongTicks()...) {
		for _, price := range wrongPrices() {
			p.must(p.set(price, now), api.ErrArg)
		}
	}
	for _, now := range wrongTicks() {
		for _, price := range prices() {
			p.must(p.set(price, now), api.ErrArg)
		}
	}
	p.mustTellNone()
	p.must(p.set(7, 0), api.OK)
}

// P17.1: ticks

func TestTicksOfASecondPrice(t *testing.T) {
	for _, now := range []uint64{1, 2, 1000, 1 << 32, latest - 1} {
		p := with(t, Rules{100, 5}, told{1000, now})
		for _, price := range []rate.Price{900, 1000, 1100} {
			p.must(p.set(price, 0), api.ErrTime)
			p.must(p.set(price, now-1), api.ErrTime)
			p.must(p.set(price, now), api.ErrTime)
		}
		p.mustTell(told{1000, now}, 900, 1100)
		p.must(p.set(1100, now+1), api.OK)
		p.mustTell(told{1100, now + 1}, 990, 1210)
	}
}

func TestSecondPriceBehindTickZero(t *testing.T) {
	p := with(t, Rules{100, 5}, told{1000, 0})
	p.must(p.set(1000, 0), api.ErrTime)
	p.must(p.set(1000, 1), api.OK)
	p.must(p.set(1000, 1), api.ErrTime)
	p.must(p.set(1000, 0), api.ErrTime)
	p.must(p.set(1000, latest), api.OK)
}

// Behind a price at the last tick there is none further.
func TestNoPriceBehindTheLastTick(t *testing.T) {
	p := with(t, Rules{1000, 5}, told{1000, latest})
	for _, now := range ticks() {
		p.must(p.set(1000, now), api.ErrTime)
	}
	for _, now := range wrongTicks() {
		p.must(p.set(1000, now), api.ErrArg)
	}
	p.mustTell(told{1000, latest}, 1, 2000)
}

// P17.1, P17.2: how far a price may move

// edges are bounds worked out by hand: of a last price, with Move 0, 1, 100, 999 and 1000.
type edges struct {
	last   rate.Price
	bounds [5][2]rate.Price
}

func handmade() []edges {
	return []edges{
		{1, [5][2]rate.Price{{1, 1}, {1, 1}, {1, 1}, {1, 1}, {1, 2}}},
		{2, [5][2]rate.Price{{2, 2}, {2, 2}, {2, 2}, {1, 3}, {1, 4}}},
		{999, [5][2]rate.Price{{999, 999}, {999, 999}, {900, 1098}, {1, 1997}, {1, 1998}}},
		{1000, [5][2]rate.Price{{1000, 1000}, {999, 1001}, {900, 1100}, {1, 1999}, {1, 2000}}},
		{1001, [5][2]rate.Price{{1001, 1001}, {1000, 1002}, {901, 1101}, {2, 2000}, {1, 2002}}},
		{highest - 1, [5][2]rate.Price{{highest - 1, highest - 1}, {1098412116148, highest}, {989560464998, highest}, {1099511628, highest}, {1, highest}}},
		{highest, [5][2]rate.Price{{highest, highest}, {1098412116149, highest}, {989560464999, highest}, {1099511628, highest}, {1, highest}}},
	}
}

// mustBeBound checks by hand which next prices at a bound are taken: it, the one inside, and not the one beyond.
func (p *pair) mustBeBound(bound, inside, beyond, low, high rate.Price, now uint64) {
	p.t.Helper()
	p.must(p.apart().set(bound, now), api.OK)
	if inside >= low && inside <= high {
		p.must(p.apart().set(inside, now), api.OK)
	}
	want := api.ErrMove
	if beyond < 1 || beyond > highest {
		want = api.ErrArg
	}
	p.must(p.set(beyond, now), want)
}

func TestNextPriceAtItsBounds(t *testing.T) {
	for _, l := range handmade() {
		for i, move := range []uint64{0, 1, 100, 999, 1000} {
			p := with(t, Rules{move, 5}, told{l.last, 3})
			low, high := l.bounds[i][0], l.bounds[i][1]
			p.mustTell(told{l.last, 3}, low, high)
			p.mustBeBound(low, low+1, low-1, low, high, 4)
			p.mustBeBound(high, high-1, high+1, low, high, 4)
			p.must(p.apart().set(l.last, 4), api.OK)
			p.mustTell(told{l.last, 3}, low, high)
			p.mustTakeJust(prices()...)
		}
	}
}

// All next prices of small ones, and of ones around a thousand, by all kinds of Move.
func TestNextPricesOneByOne(t *testing.T) {
	for _, move := range moves() {
		for _, last := range []rate.Price{1, 2, 3, 4, 5, 7, 10, 499, 500, 501, 999, 1000, 1001, 1003} {
			p := with(t, Rules{move, 5}, told{last, 3})
			low, high := p.feed.Bounds()
			for price := rate.Price(1); price <= 2*last+2; price++ {
				want := api.ErrMove
				if p.record.near(price) {
					want = api.OK
				}
				if e := p.feed.Copy().Set(price, 4); e != want || (e == api.OK) != (price >= low && price <= high) {
					t.Fatalf("Move %d, %d behind %d: %d, want %d, of Bounds %d, %d", move, price, last, int(e), int(want), low, high)
				}
			}
		}
	}
}

// Each Move there may be, of prices at which thousandths are rounded, and at which they aren't.
func TestEachMove(t *testing.T) {
	for move := range uint64(1001) {
		for _, last := range []rate.Price{1, 2, 999, 1000, 1001, 123457, highest/2 + 1, highest - 1, highest} {
			with(t, Rules{move, 5}, told{last, 3}).mustTakeJust(last)
		}
	}
}

// What was moved once is weighed against the last price, not against one ahead of that.
func TestBoundsGoWithThePrice(t *testing.T) {
	p := with(t, Rules{100, 5}, told{1000, 1}, told{1100, 2}, told{1210, 3}, told{1331, 4})
	p.mustTell(told{1331, 4}, 1198, 1464)
	p.must(p.set(1000, 5), api.ErrMove)
	p.must(p.set(1198, 5), api.OK)
	p.mustTell(told{1198, 5}, 1079, 1317)
}

// Without a move the first price stays for ever; by all of it any price may be followed by 1, and 1 by 2 at most.
func TestMovesAtTheEnds(t *testing.T) {
	p := with(t, Rules{0, 5}, told{1000, 1})
	for _, price := range prices() {
		want := api.ErrMove
		if price == 1000 {
			want = api.OK
		}
		p.must(p.apart().set(price, latest), want)
	}
	q := with(t, Rules{1000, 5}, told{1000, 1}, told{1, 2})
	q.mustTell(told{1, 2}, 1, 2)
	q.must(q.set(3, 3), api.ErrMove)
	q.must(q.set(2, 3), api.OK)
	q.must(q.set(4, 4), api.OK)
}

// P17.1: which error comes first, and what is refused changes nothing

func TestOrderOfErrors(t *testing.T) {
	p := with(t, Rules{100, 5}, told{1000, 30})
	for range 2 {
		for _, now := range append(wrongTicks(), 0, 29, 30, 31, latest) {
			for _, price := range wrongPrices() {
				p.must(p.set(price, now), api.ErrArg) // also where the tick is wrong, or isn't later
			}
		}
		for _, now := range wrongTicks() {
			for _, price := range []rate.Price{1, 899, 900, 1000, 1100, 1101, highest} {
				p.must(p.set(price, now), api.ErrArg) // also where it moves too far
			}
		}
		for _, now := range []uint64{0, 29, 30} {
			for _, price := range []rate.Price{1, 899, 900, 1000, 1100, 1101, highest} {
				p.must(p.set(price, now), api.ErrTime) // also where it moves too far
			}
		}
		for _, now := range []uint64{31, 1000, latest} {
			for _, price := range []rate.Price{1, 899, 1101, highest} {
				p.must(p.set(price, now), api.ErrMove)
			}
		}
	}
	p.mustTell(told{1000, 30}, 900, 1100)
	p.mustPrice(30, 1000, api.OK)
	p.mustPrice(35, 1000, api.OK)
	p.must(p.set(1100, 31), api.OK)
}

// A refused price doesn't hold up the next one, whatever its tick was.
func TestLastBehindTakenAndRefused(t *testing.T) {
	p := begin(t, Rules{100, 5})
	p.must(p.set(0, 9), api.ErrArg)
	p.mustTellNone()
	p.must(p.set(1000, 2), api.OK)
	p.mustTell(told{1000, 2}, 900, 1100)
	p.must(p.set(2000, 9), api.ErrMove)
	p.must(p.set(950, 1), api.ErrTime)
	p.must(p.set(950, latest+1), api.ErrArg)
	p.mustTell(told{1000, 2}, 900, 1100)
	p.must(p.set(950, 3), api.OK)
	p.mustTell(told{950, 3}, 855, 1045)
}

// P17.2: how long a price is good

func TestPriceByItsAge(t *testing.T) {
	for _, age := range ages() {
		for _, now := range []uint64{1, 2, 1000, latest - 1, latest} {
			p := with(t, Rules{100, age}, told{77, now})
			p.mustPrice(0, 0, api.ErrTime)
			p.mustPrice(now-1, 0, api.ErrTime)
			p.mustPrice(now, 77, api.OK)
			if age > 0 {
				p.mustPrice(now+1, 77, api.OK)
				p.mustPrice(now+age-1, 77, api.OK)
			}
			p.mustPrice(now+age, 77, api.OK)
			p.mustPrice(now+age+1, 0, api.ErrStale)
			p.mustPrice(1<<63, 0, api.ErrStale)
			p.mustPrice(full-1, 0, api.ErrStale)
			p.mustPrice(full, 0, api.ErrStale)
		}
	}
}

func TestPriceToldAtTickZero(t *testing.T) {
	p := with(t, Rules{100, latest}, told{highest, 0})
	p.mustPrice(0, highest, api.OK)
	p.mustPrice(latest, highest, api.OK)
	p.mustPrice(latest+1, 0, api.ErrStale)
	p.mustPrice(full, 0, api.ErrStale)
	q := with(t, Rules{100, 0}, told{1, 0})
	q.mustPrice(0, 1, api.OK)
	q.mustPrice(1, 0, api.ErrStale)
	q.mustPrice(full, 0, api.ErrStale)
}

// A price told anew is good from its own tick on; one that is too old bounds the next one all the same.
func TestPriceToldAnew(t *testing.T) {
	p := with(t, Rules{100, 5}, told{1000, 10}, told{1050, 12})
	p.mustPrice(11, 0, api.ErrTime)
	p.mustPrice(12, 1050, api.OK)
	p.mustPrice(17, 1050, api.OK)
	p.mustPrice(18, 0, api.ErrStale)
	p.must(p.set(1156, 100), api.ErrMove)
	p.must(p.set(1155, 100), api.OK)
	p.mustPrice(18, 0, api.ErrTime)
	p.mustPrice(105, 1155, api.OK)
}

// Asking changes nothing.
func TestAskingChangesNothing(t *testing.T) {
	for _, p := range []*pair{begin(t, Rules{100, 5}), with(t, Rules{100, 5}, told{1000, 10})} {
		for _, now := range []uint64{full, 16, 15, 10, 9, 0} {
			p.feed.Price(now)
			p.feed.Last()
			p.feed.Bounds()
			p.feed.Copy()
		}
		p.mustBeAsRecord("asked")
		p.must(p.set(1100, 11), api.OK)
	}
}

// P17.2: Copy

func TestCopyOfAFeedWithoutAPrice(t *testing.T) {
	p := begin(t, Rules{100, 5})
	q := p.apart()
	q.must(q.set(1000, 3), api.OK)
	p.mustTellNone()
	p.must(p.set(20, 1), api.OK)
	q.mustTell(told{1000, 3}, 900, 1100)
	p.mustTell(told{20, 1}, 18, 22)

	r := begin(t, Rules{100, 5})
	s := r.apart()
	r.must(r.set(1000, 3), api.OK)
	s.mustTellNone()
	s.must(s.set(20, 1), api.OK)
	r.mustTell(told{1000, 3}, 900, 1100)
}

func TestCopyOfAFeedWithAPrice(t *testing.T) {
	p := with(t, Rules{100, 5}, told{1000, 3})
	q := p.apart()
	q.mustTell(told{1000, 3}, 900, 1100)
	q.must(q.set(1100, 4), api.OK)
	p.mustTell(told{1000, 3}, 900, 1100)
	p.mustPrice(8, 1000, api.OK)
	p.mustPrice(9, 0, api.ErrStale)
	p.must(p.set(900, 5), api.OK)
	q.mustTell(told{1100, 4}, 990, 1210)
	q.mustPrice(9, 1100, api.OK)
	p.mustTell(told{900, 5}, 810, 990)

	r := q.apart()
	q.must(q.set(1200, 6), api.OK)
	r.mustTell(told{1100, 4}, 990, 1210)
	r.must(r.set(1000, 7), api.OK)
	q.mustTell(told{1200, 6}, 1080, 1320)
}

// P17.1, P17.2: a feed that isn't there

func TestNilFeed(t *testing.T) {
	var f *Feed
	for _, now := range append(ticks(), wrongTicks()...) {
		for _, price := range append(prices(), wrongPrices()...) {
			if e := f.Set(price, now); e != api.ErrArg {
				t.Errorf("Set(%d, %d): %d", price, now, int(e))
			}
		}
		if price, e := f.Price(now); price != 0 || e != api.ErrArg {
			t.Errorf("Price(%d): %d, %d", now, price, int(e))
		}
	}
	if last, tick, ok := f.Last(); last != 0 || tick != 0 || ok {
		t.Errorf("Last: %d, %d, %t", last, tick, ok)
	}
	if low, high := f.Bounds(); low != 0 || high != 0 {
		t.Errorf("Bounds: %d, %d", low, high)
	}
	if c := f.Copy(); c != nil {
		t.Errorf("Copy: %v", c)
	}
}

// P17.1, P17.2: rows

// pick answers one of a list.
func pick[T any](rnd *rand.Rand, l []T) T {
	return l[rnd.Intn(len(l))]
}

// next answers a price that is near a bound, or the last one, or anything else.
func (p *pair) next(rnd *rand.Rand) rate.Price {
	low, high := p.record.bounds()
	last, _ := p.record.last()
	shift := rate.Price(rnd.Intn(3)) - 1 // one less goes round where there is none
	switch rnd.Intn(8) {
	case 0:
		return pick(rnd, wrongPrices())
	case 1:
		return pick(rnd, prices())
	case 2:
		return low + shift
	case 3:
		return high + shift
	case 4:
		return last.price + shift
	case 5:
		return 1 + rate.Price(rnd.Uint64()>>(24+rnd.Intn(40)))
	default:
		return low + rate.Price(rnd.Int63n(int64(high-low)+1))
	}
}

// when answers a tick that is mostly a bit later than the last one, and else at it, ahead of it or wrong.
func (p *pair) when(rnd *rand.Rand) uint64 {
	last, _ := p.record.last()
	switch rnd.Intn(12) {
	case 0:
		return pick(rnd, wrongTicks())
	case 1:
		return last.tick
	case 2:
		return last.tick - uint64(rnd.Intn(3)) // which goes round where there is none
	default:
		return last.tick + uint64(rnd.Intn(20))
	}
}

// Behind each step all is held against the record, and what would be taken then against the bounds.
func TestLongRows(t *testing.T) {
	for seed := range int64(60) {
		rnd := rand.New(rand.NewSource(seed))
		p := begin(t, Rules{pick(rnd, moves()), pick(rnd, ages())})
		for range 400 {
			p.set(p.next(rnd), p.when(rnd))
			p.mustTakeJust(pick(rnd, prices()), 1+rate.Price(rnd.Uint64()>>(24+rnd.Intn(40))))
		}
		if p.record.taken < 20 {
			t.Errorf("seed %d: only %d were taken", seed, p.record.taken)
		}
	}
}

// Of two that are apart each is told its own row.
func TestLongRowsOfTwo(t *testing.T) {
	for seed := range int64(20) {
		rnd := rand.New(rand.NewSource(100 + seed))
		p := begin(t, Rules{pick(rnd, moves()), pick(rnd, ages())})
		for range rnd.Intn(3) {
			p.set(p.next(rnd), p.when(rnd))
		}
		q := p.apart()
		for range 200 {
			one, other := p, q
			if rnd.Intn(2) == 0 {
				one, other = q, p
			}
			one.set(one.next(rnd), one.when(rnd))
			other.mustBeAsRecord("the other one")
		}
	}
}

// A price that goes as far as it may reaches both ends, and never beyond.
func TestRowsToTheEnds(t *testing.T) {
	for _, move := range []uint64{1, 100, 999, 1000} {
		p := with(t, Rules{move, 5}, told{2000, 0})
		tick := uint64(0)
		goOn := func(up bool) rate.Price {
			for {
				last, _, _ := p.feed.Last()
				low, next := p.feed.Bounds()
				if !up {
					next = low
				}
				if next == last {
					return last
				}
				tick++
				p.must(p.set(next, tick), api.OK)
				p.mustTakeJust()
			}
		}
		if top := goOn(true); top != highest {
			t.Errorf("Move %d: up to %d", move, top)
		}
		if bottom := goOn(false); uint64(bottom)*move >= 1000 && bottom != 1 {
			t.Errorf("Move %d: down to %d", move, bottom)
		}
	}
}

// All rows of three prices and ticks at the ends.
func TestAllShortRows(t *testing.T) {
	var steps []told
	for _, price := range []rate.Price{0, 1, 2, 3, highest - 1, highest, highest + 1} {
		for _, now := range []uint64{0, 1, 2, latest, latest + 1} {
			steps = append(steps, told{price, now})
		}
	}
	var goOn func(p *pair, left int)
	goOn = func(p *pair, left int) {
		for _, s := range steps {
			q := &pair{t: t, feed: p.feed.Copy(), record: p.record}
			if q.set(s.price, s.tick); left > 1 {
				goOn(q, left-1)
			}
		}
	}
	goOn(begin(t, Rules{500, 1}), 3)
	goOn(begin(t, Rules{1000, 0}), 2)
	goOn(begin(t, Rules{0, latest}), 2)
}
