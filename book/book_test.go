package book

import (
	"fmt"
	"iter"
	"math"
	"math/rand"
	"slices"
	"strings"
	"testing"

	"pontage/api"
	"pontage/money"
	"pontage/pool"
	"pontage/rate"
	"pontage/token"
)

// wrongAmounts are such that no call takes.
func wrongAmounts() []money.Amount {
	return []money.Amount{top + 1, top + 2, 1<<63 - 1, 1 << 63, 1<<63 + 1, full - top, full - 1, full}
}

// The chapter's example.
func TestExample(t *testing.T) {
	p := priced(t, 100, 200, 1)
	p.must(api.OK, register(1, 200))
	p.must(api.ErrSecure, one("Reserve", 1, api.Coin+1))
	p.must(api.OK, one("Reserve", 1, api.Coin))
	p.must(api.ErrSecure, one("Reserve", 1, 1))
	p.mustBe(1, Vault{Collateral: 200, Coming: api.Coin})
}

// P20.1: rules

// mustCheck checks that Check and New tell the same of rules.
func mustCheck(t *testing.T, r Rules, want api.Errno) {
	t.Helper()
	if e := r.Check(); e != want {
		t.Errorf("%+v: Check: %d, want %d", r, int(e), int(want))
	}
	b, e := New(r)
	if e != want || (b == nil) != (want != api.OK) {
		t.Errorf("%+v: New: %v, %d, want %d", r, b, int(e), int(want))
	}
	if b != nil && b.Rules() != r {
		t.Errorf("Rules: %+v, want %+v", b.Rules(), r)
	}
}

// field is one of the rules': its least and its most.
type field struct {
	name        string
	of          func(r *Rules) *uint64
	least, most uint64
}

// numbers are those of the rules, in which all bands are alike at first.
func numbers() []field {
	return []field{
		{"Secure", func(r *Rules) *uint64 { return &r.Bands.Secure }, 1000, 1000000},
		{"Low", func(r *Rules) *uint64 { return &r.Bands.Low }, 1, 1000},
		{"Premium", func(r *Rules) *uint64 { return &r.Bands.Premium }, 1000, 1000},
		{"Move", func(r *Rules) *uint64 { return &r.Oracle.Move }, 0, 1000},
		{"Age", func(r *Rules) *uint64 { return &r.Oracle.Age }, 0, 1 << 40},
		{"Issue", func(r *Rules) *uint64 { return &r.Issue }, 1, 1 << 30},
		{"Redeem", func(r *Rules) *uint64 { return &r.Redeem }, 1, 1 << 30},
		{"Replace", func(r *Rules) *uint64 { return &r.Replace }, 1, 1 << 30},
		{"Grief", func(r *Rules) *uint64 { return &r.Grief }, 0, 1000},
		{"Penalty", func(r *Rules) *uint64 { return &r.Penalty }, 0, 1000},
		{"Dust", func(r *Rules) *uint64 { return (*uint64)(&r.Dust) }, 1, 1 << 62},
	}
}

func alike() Rules {
	r := rules()
	r.Bands = rate.Bands{Secure: 1000, Premium: 1000, Low: 1000}
	return r
}

func TestRulesByThemselves(t *testing.T) {
	mustCheck(t, rules(), api.OK)
	mustCheck(t, Rules{}, api.ErrArg)
	for _, f := range numbers() {
		for _, n := range []uint64{f.least, f.least + 1, f.most - 1, f.most, f.least - 1, f.most + 1, 0, 1 << 63, math.MaxUint64 - 1, math.MaxUint64} {
			r, want := alike(), api.OK
			*f.of(&r) = n
			if n < f.least || n > f.most {
				want = api.ErrArg
			}
			mustCheck(t, r, want)
		}
	}
}

func TestRulesAtTheirEnds(t *testing.T) {
	least, most := alike(), alike()
	for _, f := range numbers() {
		*f.of(&least) = f.least
		*f.of(&most) = f.most
	}
	mustCheck(t, least, api.OK)
	mustCheck(t, most, api.OK)
	least.Bands = rate.Bands{Secure: 1, Premium: 1, Low: 1}
	mustCheck(t, least, api.OK)
	most.Bands = rate.Bands{Secure: 1000000, Premium: 1000000, Low: 1000000}
	mustCheck(t, most, api.OK)
}

func TestBandsInOrder(t *testing.T) {
	for _, x := range []struct {
		bands rate.Bands
		want  api.Errno
	}{
		{rate.Bands{Secure: 3, Premium: 2, Low: 1}, api.OK}, {rate.Bands{Secure: 2, Premium: 2, Low: 2}, api.OK},
		{rate.Bands{Secure: 2, Premium: 3, Low: 1}, api.ErrArg}, {rate.Bands{Secure: 3, Premium: 1, Low: 2}, api.ErrArg},
		{rate.Bands{Secure: 1, Premium: 2, Low: 3}, api.ErrArg}, {rate.Bands{Secure: 0, Premium: 0, Low: 0}, api.ErrArg},
		{rate.Bands{Secure: 3, Premium: 2, Low: 0}, api.ErrArg}, {rate.Bands{Secure: 1000001, Premium: 2, Low: 1}, api.ErrArg},
		{rate.Bands{Secure: 1000001, Premium: 1000001, Low: 1000001}, api.ErrArg}, {rate.Bands{Secure: 1000000, Premium: 2, Low: 1}, api.OK},
	} {
		r := rules()
		r.Bands = x.bands
		mustCheck(t, r, x.want)
	}
}

// wrongs are numbers that a field may not be, whatever the others are, but for bands.
func (f field) wrongs() []uint64 {
	l := []uint64{f.most + 1, 1 << 63, math.MaxUint64}
	if f.least > 0 {
		l = append(l, 0)
	}
	return l
}

func TestTwoWrongRules(t *testing.T) {
	for _, f := range numbers() {
		for _, g := range numbers() {
			for _, n := range f.wrongs() {
				for _, m := range g.wrongs() {
					r := alike()
					*f.of(&r) = n
					*g.of(&r) = m
					mustCheck(t, r, api.ErrArg)
				}
			}
		}
	}
}

func TestAnyRules(t *testing.T) {
	rnd := rand.New(rand.NewSource(1))
	rights := 0
	for range 4000 {
		r, want := alike(), api.OK
		for i, f := range numbers() {
			if rnd.Intn(6) != 0 {
				continue
			}
			n := []uint64{f.least - 1, f.least, f.least + 1, f.most - 1, f.most, f.most + 1}[rnd.Intn(6)]
			if *f.of(&r) = n; i > 2 && (n < f.least || n > f.most) {
				want = api.ErrArg
			}
		}
		if b := r.Bands; b.Low < 1 || b.Premium < b.Low || b.Secure < b.Premium || b.Secure > 1000000 {
			want = api.ErrArg
		}
		if mustCheck(t, r, want); want == api.OK {
			rights++
		}
	}
	if rights < 400 || rights > 3600 {
		t.Errorf("%d of 4000 may be", rights)
	}
}

// P20.1: New

func TestNewBook(t *testing.T) {
	p := begin(t)
	if read(p.book) != (record{rules: rules()}) {
		t.Errorf("a new one: %s", unlike(read(p.book), record{rules: rules()}))
	}
	if p.book.Now() != 0 || p.book.Deposits() != 0 || p.tokens.Total() != 0 || p.purse.Held() != 0 {
		t.Error("something is there")
	}
	for v := range p.book.Vaults() {
		t.Errorf("a vault: %v", v)
	}
	if price, e := p.book.Price(); price != 0 || e != api.ErrNone {
		t.Errorf("Price: %d, %d", price, int(e))
	}
}

func TestNewOnesAreApart(t *testing.T) {
	p, q := priced(t, even, 100, 1), begin(t)
	p.must(api.OK, register(1, 50), one("Reserve", 1, 5), one("Deposit", 1, 3))
	p.tick(3, api.OK)
	q.mustBeAsRecord("the other one")
	q.set(7, 2)
	q.payIn(2, 10)
	q.must(api.OK, register(2, 10))
	p.mustBeAsRecord("the one")
}

// What is asked for isn't the book's rules themselves.
func TestRulesAreCopied(t *testing.T) {
	r := rules()
	p := beginBy(t, r)
	r.Dust = 99
	got := p.book.Rules()
	got.Issue = 99
	p.mustBeAsRecord("rules that were changed")
}

// P20.1: Tick and Price

func TestTick(t *testing.T) {
	for _, steps := range [][]uint64{{0}, {1}, {0, 1, 0}, {5, 7}, {api.MaxTicks}, {api.MaxTicks - 1, 1}, {1, api.MaxTicks - 1, 0}} {
		p, now := begin(t), uint64(0)
		for _, n := range steps {
			left := api.MaxTicks - now
			for _, more := range []uint64{left + 1, left + 2, api.MaxTicks + 1, 1 << 63, math.MaxUint64 - 1, math.MaxUint64} {
				p.tick(more, api.ErrOver)
			}
			p.tick(n, api.OK)
			now += n
			if p.book.Now() != now {
				t.Errorf("Now: %d, want %d", p.book.Now(), now)
			}
		}
	}
}

func TestTickAtTheEnd(t *testing.T) {
	p := begin(t)
	p.tick(api.MaxTicks, api.OK)
	p.tick(1, api.ErrOver)
	p.tick(api.MaxTicks, api.ErrOver)
	p.tick(math.MaxUint64-api.MaxTicks+1, api.ErrOver) // with which the clock would be 0
	p.tick(math.MaxUint64, api.ErrOver)
	p.tick(0, api.OK)
}

// mustCost checks a price against one that is written out.
func (p *pair) mustCost(want rate.Price, wantErr api.Errno) {
	p.t.Helper()
	if price, e := p.book.Price(); price != want || e != wantErr {
		p.t.Errorf("Price at %d: %d, %d; want %d, %d", p.book.Now(), price, int(e), want, int(wantErr))
	}
}

func TestPrice(t *testing.T) {
	for _, age := range []uint64{0, 1, 50, api.MaxTicks} {
		r := rules()
		r.Oracle.Age = age
		p := beginBy(t, r)
		p.mustCost(0, api.ErrNone)
		p.tick(3, api.OK)
		p.mustCost(0, api.ErrNone)
		p.set(7, 5)
		p.mustCost(0, api.ErrTime) // at a tick that isn't yet
		p.tick(1, api.OK)
		p.mustCost(0, api.ErrTime)
		p.tick(1, api.OK)
		p.mustCost(7, api.OK)
		if age == api.MaxTicks {
			p.tick(api.MaxTicks-5, api.OK)
			p.mustCost(7, api.OK)
			continue
		}
		p.tick(age, api.OK)
		p.mustCost(7, api.OK)
		p.tick(1, api.OK)
		p.mustCost(0, api.ErrStale)
		p.set(9, 6+age)
		p.mustCost(9, api.OK)
	}
}

// P20.1: what is the book's own

func TestTheBooksOwn(t *testing.T) {
	p := priced(t, even, 100, 1, 2)
	p.must(api.OK, register(1, 90), one("Reserve", 1, 40), two("Mint", 1, 2, 40))
	p.move(2, 3, 15)
	p.must(api.ErrFew, two("Burn", 1, 2, 26))
	p.must(api.OK, two("Burn", 1, 2, 25), two("Burn", 1, 3, 15))
	p.takeOut(1, 8)
	p.must(api.ErrFew, one("More", 1, 3))
	p.must(api.OK, one("More", 1, 2))
	p.set(2*even, 1)
	p.must(api.ErrTime, one("Reserve", 1, 1))
	p.tick(1, api.OK)
	p.must(api.ErrSecure, one("Reserve", 1, 1))
	p.mustBe(1, Vault{Collateral: 92, Going: 40})
}

func TestBurden(t *testing.T) {
	for _, issued := range []money.Amount{0, 1, 7, 1 << 61, top} {
		for _, coming := range []money.Amount{0, 2, 1 << 61, top} {
			for _, going := range []money.Amount{0, 5, 1 << 61, top} {
				v := Vault{Who: 3, Collateral: 100, Issued: issued, Coming: coming, Going: going, Leaving: 50}
				want := sum(issued, coming, going).Uint64()
				if n := v.Burden(); uint64(n) != want {
					t.Errorf("%v: Burden: %d, want %d", v, n, want)
				}
				if v.Fallen = true; uint64(v.Burden()) != want {
					t.Errorf("%v: Burden: %d, want %d", v, v.Burden(), want)
				}
			}
		}
	}
}

// P20.1: Vaults

// orders are numbers rising, falling and mixed.
func orders(n int) [][]int {
	rising, falling := make([]int, n), make([]int, n)
	for i := range n {
		rising[i], falling[i] = i, n-1-i
	}
	return [][]int{rising, falling, rand.New(rand.NewSource(1)).Perm(n), rand.New(rand.NewSource(2)).Perm(n)}
}

func TestVaultsRising(t *testing.T) {
	for _, order := range orders(api.MaxVaults) {
		p := begin(t)
		for _, i := range order {
			w := token.Who(255 - 4*i) // up to 255, and down to 3
			p.payIn(w, money.Amount(i))
			p.must(api.OK, register(w, money.Amount(i)))
		}
		l := slices.Collect(p.book.Vaults())
		if len(l) != api.MaxVaults || !slices.IsSortedFunc(l, func(v, w Vault) int { return int(v.Who) - int(w.Who) }) {
			t.Errorf("Vaults: %v", l)
		}
		mustGoThrough(t, p.book.Vaults(), l)
	}
}

// mustGoThrough checks that an iterator tells the same twice, and is left early.
func mustGoThrough(t *testing.T, l iter.Seq[Vault], want []Vault) {
	t.Helper()
	for range 2 {
		if got := slices.Collect(l); !slices.Equal(got, want) {
			t.Errorf("Vaults: %v, want %v", got, want)
		}
	}
	for n := range len(want) + 1 {
		var got []Vault
		for v := range l {
			if len(got) == n {
				break
			}
			got = append(got, v)
		}
		if !slices.Equal(got, want[:n]) {
			t.Errorf("Vaults, left behind %d: %v, want %v", n, got, want[:n])
		}
	}
}

// What is told may be changed, and the book may be told of as it is gone through: it goes on as it was.
func TestVaultsAreAsTheyWere(t *testing.T) {
	p := zoo(t)
	was := p.record.sorted()
	l := p.book.Vaults()
	var got []Vault
	for v := range l {
		got = append(got, v)
		p.must(api.OK, register(100+v.Who, 0))
		v.Collateral, v.Who = 9, 9
	}
	if !slices.Equal(got, was) {
		t.Errorf("Vaults: %v, want %v", got, was)
	}
	mustGoThrough(t, p.book.Vaults(), p.record.sorted())
}

// zoo is a pair with a price at which a part is worth 1, and vaults of all kinds: 1 and 2 have all that may be, of 5 and 255 there is nothing but their collateral, 6 has nothing at all;
// 3 fell while some was issued, going and coming, 4 with nothing, 7 with what was going alone. 10 and 11 have tokens, and 25 are held for requests.
func zoo(t testing.TB) *pair {
	t.Helper()
	p := priced(t, even, 2000, 1, 2, 3, 4, 5, 7, 10, 255)
	p.must(api.OK, register(1, 1000), register(2, 700), register(3, 500), register(4, 40), register(5, 30), register(6, 0), register(7, 100), register(255, 20))
	p.must(api.OK, one("Reserve", 1, 200), two("Mint", 1, 10, 160), two("Burn", 1, 10, 20), one("Leave", 1, 30))
	p.must(api.OK, one("Reserve", 2, 150), two("Mint", 2, 11, 90), two("Burn", 2, 11, 40), one("Leave", 2, 50))
	p.must(api.OK, one("Reserve", 3, 100), two("Mint", 3, 10, 50), two("Burn", 3, 10, 7), one("Leave", 3, 2))
	p.must(api.OK, one("Reserve", 7, 50), two("Mint", 7, 7, 50), two("Burn", 7, 7, 50))
	p.must(api.OK, fall(3), fall(4), fall(7), one("Deposit", 10, 25))
	p.mustBe(1, Vault{Collateral: 1000, Issued: 140, Coming: 40, Going: 20, Leaving: 30})
	p.mustBe(2, Vault{Collateral: 700, Issued: 50, Coming: 60, Going: 40, Leaving: 50})
	p.mustBe(3, Vault{Collateral: 70, Coming: 50, Going: 7, Fallen: true})
	p.mustBe(4, Vault{Fallen: true})
	p.mustBe(7, Vault{Collateral: 100, Going: 50, Fallen: true})
	p.mustPool(470, 43)
	p.mustHave(10, 183, 1975)
	p.mustHave(11, 50, 0)
	return p
}

// zoos are those with a good price, with one that is too old, with one of a tick that isn't yet, and with that of a bridge on which nothing was ever said of it.
func zoos(t testing.TB) []*pair {
	t.Helper()
	good, old, ahead := zoo(t), zoo(t), zoo(t)
	old.tick(51, api.OK)
	ahead.set(even+1, 1)
	none := begin(t)
	for _, w := range []token.Who{1, 3, 255} {
		none.payIn(w, 50)
		none.must(api.OK, register(w, 30))
	}
	none.must(api.OK, fall(3), one("Deposit", 1, 20))
	return []*pair{good, old, ahead, none}
}

// all calls of amounts, by parties.
func acts(parties []token.Who, amounts ...money.Amount) []act {
	var l []act
	for _, call := range allCalls() {
		for _, w := range parties {
			for _, a := range amounts {
				switch {
				case call == "Register":
					l = append(l, register(w, a), act{call: call, w: w, a: a, at: address(1)}, act{call: call, w: w, a: a})
				case !ofTwo(call):
					l = append(l, one(call, w, a))
				default:
					for _, to := range parties {
						l = append(l, two(call, w, to, a))
					}
				}
			}
		}
	}
	return l
}

// P20.2 to P20.5: every call, of every kind of vault, at amounts around those at which something changes; of each call all errors that can hold at once do, two by two.
func TestEveryCall(t *testing.T) {
	met := map[string]bool{}
	for _, p := range append(zoos(t), crowd(t, api.MaxVaults)) {
		for _, x := range acts([]token.Who{1, 2, 3, 7, 10, 255}, 0, 1, 7, 8, 25, 30, 40, 41, 43, 61, 110, 680, 1000, 2001, top, top+1) {
			l := p.record.faults(x)
			for i, e := range l {
				for _, next := range l[i+1:] {
					met[fmt.Sprintf("%s %d/%d", x.call, int(e), int(next))] = true
				}
			}
			if len(l) > 0 {
				p.tell(x) // it leaves all as it was
			} else {
				p.apart().tell(x)
			}
		}
	}
	for call, pairs := range errorsAtOnce() {
		for _, two := range strings.Fields(pairs) {
			if !met[call+" "+two] {
				t.Errorf("%s: never at once: %s", call, two)
			}
		}
	}
}

// errorsAtOnce are, for each call, the numbers of errors that can hold at once, two by two, the one that is answered first.
func errorsAtOnce() map[string]string {
	return map[string]string{
		"Register": "1/9 1/10 1/16 9/10 9/16 10/16",
		"More":     "1/12 1/20 1/16 12/16 20/16",
		"Less":     "1/12 1/20 1/16 1/11 1/18 1/19 12/16 12/12 12/11 12/18 12/19 20/16 20/12 20/11 20/18 20/19 16/12 16/11 16/18 16/19",
		"Reserve":  "1/12 1/20 1/11 1/18 1/4 1/19 12/12 12/11 12/18 12/4 12/19 20/12 20/11 20/18 20/4 20/19 11/4 18/4 4/19",
		"Release":  "1/12 1/16 12/16",
		"Mint":     "1/12 1/20 1/16 1/4 12/16 12/4 20/16 20/4 16/4",
		"Burn":     "1/12 1/20 1/16 12/16 20/16 16/16",
		"Paid":     "1/12 1/16 12/16",
		"Remint":   "1/12 1/16 1/4 12/16 12/4 16/4",
		"Slash":    "1/12",
		"Leave":    "1/12 1/20 1/16 12/16 20/16",
		"Stay":     "1/12 1/20 1/16 12/16 20/16",
		"Hand":     "1/12 1/20 1/9 1/16 12/12 12/20 12/9 12/16 20/12 20/20 20/9 20/16 9/16",
		"Redeem":   "1/16",
		"Deposit":  "1/16",
		"Return":   "1/16",
	}
}

// P20.2: amounts, parties without a vault, and those whose vault has fallen

func TestWrongAmounts(t *testing.T) {
	for _, p := range zoos(t) {
		was := p.record
		for _, x := range acts([]token.Who{0, 1, 2, 3, 10, 255}, append(wrongAmounts(), 0)...) {
			if x.call != "Fall" && (x.call != "Register" || x.a != 0) {
				p.must(api.ErrArg, x)
			}
		}
		if p.record != was {
			t.Error("something changed")
		}
	}
}

func TestPartiesWithoutVault(t *testing.T) {
	for _, p := range zoos(t) {
		for _, w := range []token.Who{0, 10, 11, 254} {
			for _, a := range []money.Amount{1, 5, 25, top} {
				for _, call := range ofVaults() {
					p.must(api.ErrNone, one(call, w, a), two(call, w, 1, a), two(call, w, 3, a), two(call, w, w, a), two(call, w, 255, a))
				}
			}
			if v, ok := p.book.Vault(w); v != (Vault{}) || ok {
				t.Errorf("Vault(%d): %v, %v", w, v, ok)
			}
		}
	}
}

func TestFallenVaults(t *testing.T) {
	for _, p := range zoos(t) {
		for _, a := range []money.Amount{1, 2, 7, 50, 100, top} {
			for _, call := range standers() {
				p.must(api.ErrState, one(call, 3, a), two(call, 3, 1, a), two(call, 3, 3, a), two(call, 3, 254, a))
			}
		}
	}
	p := zoo(t)
	for _, a := range []money.Amount{1, 2, 7, 50, 100, top} {
		for _, call := range standers() {
			p.must(api.ErrState, one(call, 4, a), two(call, 7, 10, a))
		}
	}
}

// A vault of the party 255, and one of the party 0, are as any.
func TestEndsOfParties(t *testing.T) {
	p := priced(t, even, 100, 0, 255)
	for _, w := range []token.Who{255, 0} {
		p.must(api.OK, register(w, 60), one("More", w, 40), one("Reserve", w, 50), two("Mint", w, w, 30), two("Burn", w, w, 10))
		p.mustBe(w, Vault{Collateral: 100, Issued: 20, Coming: 20, Going: 10})
		p.mustHave(w, 20, 0)
	}
}

// P20.2: Register

func TestRegister(t *testing.T) {
	for _, collateral := range []money.Amount{0, 1, 99, 100} {
		p := priced(t, even, 100, 1)
		p.must(api.ErrFew, register(1, 101), register(1, top), register(2, 1))
		p.must(api.OK, register(1, collateral))
		p.mustBe(1, Vault{Collateral: collateral})
		p.mustHave(1, 0, 100-collateral)
		if p.purse.Held() != collateral {
			t.Errorf("%d are held", p.purse.Held())
		}
	}
	p := begin(t)
	p.payIn(1, top)
	p.must(api.OK, register(1, top), register(2, 0)) // also without a price
	p.mustBe(1, Vault{Collateral: top})
}

func TestRegisterTwice(t *testing.T) {
	p := priced(t, even, 100, 1, 2)
	p.must(api.OK, act{call: "Register", w: 1, a: 10})
	for _, a := range []money.Amount{0, 10, 90, 91, top} {
		p.must(api.ErrSame, act{call: "Register", w: 1, a: a}, register(1, a), act{call: "Register", w: 2, a: a})
	}
	for i := range api.AddressSize { // another address, by a byte
		w := token.Who(2 + i)
		x := act{call: "Register", w: w}
		x.at[i] = 1
		p.must(api.OK, x)
		x.w = 100
		p.must(api.ErrSame, x)
	}
}

// A vault that fell is one still, and so is its address.
func TestRegisterBehindFall(t *testing.T) {
	p := priced(t, even, 100, 1, 2)
	p.must(api.OK, register(1, 10), fall(1))
	p.must(api.ErrSame, register(1, 10), act{call: "Register", w: 1, at: address(2)}, act{call: "Register", w: 2, a: 5, at: address(1)})
	p.must(api.OK, register(2, 10))
}

// crowd is a pair with so many vaults, some of which fell, and of which the party 200 has some collateral free.
func crowd(t *testing.T, n int) *pair {
	t.Helper()
	p := priced(t, even, 100, 200)
	for i := range n {
		p.must(api.OK, register(token.Who(i), 0))
		if i%5 == 0 {
			p.must(api.OK, fall(token.Who(i)))
		}
	}
	return p
}

func TestRegisterUpToTheMost(t *testing.T) {
	p := crowd(t, api.MaxVaults-1)
	p.must(api.ErrFew, register(200, 101))
	p.must(api.OK, register(200, 100))
	for _, a := range []money.Amount{0, 1, top} {
		p.must(api.ErrFull, register(201, a), register(255, a))
		p.must(api.ErrSame, register(0, a), register(1, a), register(200, a), act{call: "Register", w: 201, a: a, at: address(5)})
	}
	p.must(api.ErrArg, register(201, top+1), register(200, full))
	p.must(api.OK, fall(1))
	p.must(api.ErrFull, register(201, 0))
}

// P20.2: More and Less

func TestMoreAndLess(t *testing.T) {
	p := priced(t, even, 100, 1)
	p.must(api.OK, register(1, 0))
	p.must(api.ErrFew, one("More", 1, 101), one("More", 1, top), one("Less", 1, 1), one("Less", 1, top))
	p.must(api.OK, one("More", 1, 1), one("More", 1, 99))
	p.mustBe(1, Vault{Collateral: 100})
	p.mustHave(1, 0, 0)
	p.must(api.ErrFew, one("More", 1, 1), one("Less", 1, 101))
	p.must(api.OK, one("Less", 1, 40))
	p.must(api.ErrFew, one("Less", 1, 61), one("More", 1, 41))
	p.must(api.OK, one("Less", 1, 60), one("More", 1, 100), one("Less", 1, 100))
	p.mustBe(1, Vault{})
	p.mustHave(1, 0, 100)
}

func TestMoreAndLessOfAllThereMayBe(t *testing.T) {
	p := begin(t)
	p.set(1, 0)
	p.payIn(1, top-1)
	p.payIn(2, 1)
	p.must(api.OK, register(1, 1), one("More", 1, top-2))
	p.must(api.ErrFew, one("More", 1, 1), one("More", 1, top), one("Less", 1, top))
	p.mustBe(1, Vault{Collateral: top - 1})
	p.must(api.OK, one("Less", 1, top-1))
	p.mustHave(1, 0, top-1)
}

// burdened is a pair at the price at which a part is worth 1, so that twice the burden is just enough: a vault of 1, and as many tokens of 2 as are issued.
func burdened(t testing.TB, collateral, issued, coming, going money.Amount) *pair {
	t.Helper()
	p := priced(t, even, max(collateral, 2*(issued+coming+going)), 1)
	p.must(api.OK, register(1, p.record.free[1]))
	if issued+coming+going > 0 {
		p.must(api.OK, one("Reserve", 1, issued+coming+going))
	}
	if issued+going > 0 {
		p.must(api.OK, two("Mint", 1, 2, issued+going))
	}
	if going > 0 {
		p.must(api.OK, two("Burn", 1, 2, going))
	}
	if more := p.record.vaults[1].Collateral - collateral; more > 0 { // less than is enough, as by Slash alone
		p.must(api.OK, two("Slash", 1, 9, more))
	}
	p.mustBe(1, Vault{Collateral: collateral, Issued: issued, Coming: coming, Going: going})
	return p
}

// splits are burdens of 160, of each kind alone and of all three.
func splits() [][3]money.Amount {
	return [][3]money.Amount{{160, 0, 0}, {0, 160, 0}, {0, 0, 160}, {50, 60, 50}, {1, 1, 158}, {158, 1, 1}, {1, 158, 1}}
}

func TestJustEnough(t *testing.T) {
	for _, s := range splits() {
		p := burdened(t, 1000, s[0], s[1], s[2])
		p.must(api.ErrSecure, one("Less", 1, 681), one("Less", 1, 1000))
		p.must(api.ErrFew, one("Less", 1, 1001))
		p.must(api.OK, one("Less", 1, 680))
		p.must(api.ErrSecure, one("Less", 1, 1), one("Less", 1, 320), one("Reserve", 1, 1))

		p = burdened(t, 1000, s[0], s[1], s[2])
		p.must(api.ErrSecure, one("Reserve", 1, 341), one("Reserve", 1, top-160))
		p.must(api.ErrOver, one("Reserve", 1, top-159), one("Reserve", 1, top))
		p.must(api.OK, one("Reserve", 1, 340))
		p.must(api.ErrSecure, one("Less", 1, 1), one("Reserve", 1, 1))

		for _, collateral := range []money.Amount{319, 240, 1, 0} { // not enough already
			p = burdened(t, collateral, s[0], s[1], s[2])
			p.must(api.ErrSecure, one("Reserve", 1, 1))
			p.must(api.ErrFew, one("Less", 1, collateral+1))
			if collateral > 0 {
				p.must(api.ErrSecure, one("Less", 1, 1), one("Less", 1, collateral))
			}
		}
	}
}

// Prices and thresholds at which what is enough isn't whole, and products that are above 64 bits.
func TestJustEnoughOfAPart(t *testing.T) {
	for _, x := range []struct {
		price            rate.Price
		secure           uint64
		collateral, most money.Amount
	}{
		{7, 1500, 10, 95238095}, {3, 1000, 1, 33333333}, {even, 1, 1, 1000}, {even, 1500, 3, 2}, {even, 1500, 4, 2},
		{even, 1000000, 999, 0}, {even, 1000000, 1000, 1}, {api.MaxPrice, 1000000, 10995116, 0}, {api.MaxPrice, 1000000, 10995117, 1},
		{api.MaxPrice, 1000000, top, 419430400000}, {1, 1, 46116860, 4611686000000000000}, {1, 1000, 1 << 35, 1 << 35 * api.Coin},
	} {
		mustReserveUpTo(t, x.price, x.secure, x.collateral, x.most)
	}
}

func mustReserveUpTo(t *testing.T, price rate.Price, secure uint64, collateral, most money.Amount) {
	t.Helper()
	r := rules()
	r.Bands = rate.Bands{Secure: secure, Premium: 1, Low: 1}
	p := beginBy(t, r)
	p.set(price, 0)
	p.payIn(1, collateral)
	p.must(api.OK, register(1, collateral))
	p.must(api.ErrSecure, one("Reserve", 1, most+1))
	if most == 0 {
		return
	}
	p.must(api.OK, one("Reserve", 1, (most+1)/2))
	p.must(api.ErrSecure, one("Reserve", 1, most/2+1))
	if most > 1 {
		p.must(api.OK, one("Reserve", 1, most/2))
	}
	p.must(api.ErrSecure, one("Reserve", 1, 1))
	asks := money.Amount(secure) * money.Amount(price) // below 2^60
	more := collateral - share(most, asks, api.Coin*api.Mille, true)
	p.must(api.ErrSecure, one("Less", 1, more+1))
	if more > 0 {
		p.must(api.OK, one("Less", 1, more))
	}
}

// A burden of all that there may be, of one kind and of several.
func TestReserveUpToTheMost(t *testing.T) {
	for _, parts := range [][]money.Amount{{top}, {1, top - 1}, {top - 1, 1}, {1 << 61, 1 << 61}} {
		p := begin(t)
		p.set(1, 0)
		p.payIn(1, api.Coin*api.Mille)
		p.must(api.OK, register(1, api.Coin*api.Mille))
		for _, a := range parts {
			p.must(api.OK, one("Reserve", 1, a))
		}
		p.must(api.ErrOver, one("Reserve", 1, 1), one("Reserve", 1, top))
		p.must(api.OK, two("Mint", 1, 2, 1<<61))
		p.must(api.ErrOver, one("Reserve", 1, 1), one("Reserve", 1, 1<<61))
		p.must(api.OK, two("Burn", 1, 2, 1<<60))
		p.must(api.ErrOver, one("Reserve", 1, 1), one("Reserve", 1, 1<<60))
		p.must(api.OK, one("Paid", 1, 5))
		p.must(api.ErrOver, one("Reserve", 1, 6))
		p.must(api.OK, one("Reserve", 1, 5))
		p.must(api.ErrOver, one("Reserve", 1, 1))
	}
}

// As much as there may be, but too much for the collateral, and more than there may be, which goes ahead.
func TestReserveBeyondBoth(t *testing.T) {
	p := burdened(t, 100, 3, 4, 5)
	p.must(api.ErrSecure, one("Reserve", 1, top-12))
	p.must(api.ErrOver, one("Reserve", 1, top-11), one("Reserve", 1, top))
	p.must(api.ErrArg, one("Reserve", 1, top+1))
}

// Without a price, and with one that isn't good, whatever the burden is.
func TestLessAndReserveWithoutPrice(t *testing.T) {
	for _, s := range append(splits(), [3]money.Amount{}) {
		p := burdened(t, 1000, s[0], s[1], s[2])
		p.tick(50, api.OK)
		p.must(api.OK, one("Less", 1, 1), one("Reserve", 1, 1))
		p.tick(1, api.OK)
		p.must(api.ErrStale, one("Less", 1, 1), one("Less", 1, 999), one("Reserve", 1, 1), one("Reserve", 1, top))
		p.must(api.ErrFew, one("Less", 1, 1000))
		p.set(even, 52)
		p.must(api.ErrTime, one("Less", 1, 1), one("Less", 1, 999), one("Reserve", 1, 1), one("Reserve", 1, top))
		p.must(api.ErrFew, one("Less", 1, 1000))
		p.tick(1, api.OK)
		p.must(api.OK, one("Less", 1, 1), one("Reserve", 1, 1))
	}
	p := begin(t)
	p.payIn(1, 100)
	p.must(api.OK, register(1, 50), one("More", 1, 50))
	p.must(api.ErrNone, one("Less", 1, 1), one("Less", 1, 100), one("Reserve", 1, 1), one("Reserve", 1, top))
	p.must(api.ErrFew, one("Less", 1, 101))
}

// A price that rises asks for more, one that falls for less.
func TestPricesThatMove(t *testing.T) {
	p := burdened(t, 1000, 100, 100, 100)
	p.must(api.ErrSecure, one("Reserve", 1, 201), one("Less", 1, 401))
	p.set(2*even, 1)
	p.tick(1, api.OK)
	p.must(api.ErrSecure, one("Reserve", 1, 1), one("Less", 1, 1))
	p.set(even/2, 2)
	p.tick(1, api.OK)
	p.must(api.ErrSecure, one("Reserve", 1, 701), one("Less", 1, 701))
	p.must(api.OK, one("Less", 1, 700))
	p.must(api.ErrSecure, one("Reserve", 1, 1))
}

// P20.2, P20.3: of just all, of one more, and in parts

// mustShrink checks that just as much may be done as there is, at once and in parts, of pairs that a function makes.
func mustShrink(t *testing.T, fresh func() *pair, there money.Amount, do func(a money.Amount) act) {
	t.Helper()
	for _, parts := range [][]money.Amount{{there}, {1, there - 1}, {there - 1, 1}, {there / 3, there / 3, there - 2*(there/3)}} {
		p, left := fresh(), there
		for _, a := range parts {
			p.must(api.ErrFew, do(left+1), do(left+2), do(top))
			p.must(api.OK, do(a))
			left -= a
		}
		p.must(api.ErrFew, do(1), do(2), do(top))
	}
}

func TestJustAll(t *testing.T) {
	standing := func() *pair {
		p := burdened(t, 1000, 90, 60, 50)
		p.must(api.OK, one("Leave", 1, 30), register(2, 0))
		p.payIn(2, 500)
		p.must(api.OK, one("More", 2, 500), one("Reserve", 2, 100))
		return p
	}
	fallen := func() *pair {
		p := standing()
		p.must(api.OK, fall(1))
		p.mustBe(1, Vault{Collateral: 358, Coming: 60, Going: 50, Fallen: true}) // 357.1 of 1000
		p.mustPool(642, 90)
		return p
	}
	held := func() *pair {
		p := standing()
		p.payIn(3, 70)
		p.must(api.OK, one("Deposit", 3, 70))
		return p
	}
	mustShrink(t, standing, 60, func(a money.Amount) act { return one("Release", 1, a) })
	mustShrink(t, fallen, 60, func(a money.Amount) act { return one("Release", 1, a) })
	mustShrink(t, standing, 60, func(a money.Amount) act { return two("Mint", 1, 7, a) })
	mustShrink(t, standing, 60, func(a money.Amount) act { return two("Mint", 1, 1, a) })
	mustShrink(t, standing, 60, func(a money.Amount) act { return two("Burn", 1, 2, a) }) // 30 are leaving
	mustShrink(t, standing, 50, func(a money.Amount) act { return one("Paid", 1, a) })
	mustShrink(t, fallen, 50, func(a money.Amount) act { return one("Paid", 1, a) })
	mustShrink(t, standing, 50, func(a money.Amount) act { return two("Remint", 1, 7, a) })
	mustShrink(t, fallen, 50, func(a money.Amount) act { return two("Remint", 1, 1, a) })
	mustShrink(t, standing, 60, func(a money.Amount) act { return one("Leave", 1, a) })
	mustShrink(t, standing, 30, func(a money.Amount) act { return one("Stay", 1, a) })
	mustShrink(t, standing, 30, func(a money.Amount) act { return two("Hand", 1, 2, a) })
	mustShrink(t, fallen, 90, func(a money.Amount) act { return one("Redeem", 2, a) })
	mustShrink(t, held, 70, func(a money.Amount) act { return one("Return", 8, a) })
}

// P20.3: Mint and Burn

func TestMint(t *testing.T) {
	p := burdened(t, 1000, 0, 100, 0)
	p.must(api.OK, two("Mint", 1, 255, 30), two("Mint", 1, 1, 50), two("Mint", 1, 0, 20))
	p.mustBe(1, Vault{Collateral: 1000, Issued: 100})
	p.mustHave(255, 30, 0)
	p.mustHave(1, 50, 0)
	p.mustHave(0, 20, 0)
	p.must(api.ErrFew, two("Mint", 1, 255, 1))
}

// Mint asks neither for a price, nor for what is enough.
func TestMintWithoutPrice(t *testing.T) {
	p := burdened(t, 3, 0, 100, 0)
	p.tick(51, api.OK)
	p.must(api.OK, two("Mint", 1, 2, 100), two("Burn", 1, 2, 60), one("Paid", 1, 10), two("Remint", 1, 2, 10), one("Leave", 1, 20), one("Stay", 1, 10))
	p.mustBe(1, Vault{Collateral: 3, Issued: 50, Going: 40, Leaving: 10})
}

// rich is a pair at the least price, with vaults of which each may reserve all that there may be.
func rich(t testing.TB, who ...token.Who) *pair {
	t.Helper()
	p := begin(t)
	p.set(1, 0)
	for _, w := range who {
		p.payIn(w, api.Coin*api.Mille)
		p.must(api.OK, register(w, api.Coin*api.Mille))
	}
	return p
}

// There are no more tokens of all vaults than there may be.
func TestMintUpToTheMost(t *testing.T) {
	p := rich(t, 1, 2)
	p.must(api.OK, one("Reserve", 1, top), one("Reserve", 2, 1000), two("Mint", 1, 3, top-5))
	p.must(api.ErrOver, two("Mint", 2, 3, 6), two("Mint", 2, 4, 1000))
	p.must(api.ErrFew, two("Mint", 2, 3, 1001), two("Mint", 1, 3, 6))
	p.must(api.OK, two("Mint", 2, 4, 5))
	p.must(api.ErrOver, two("Mint", 1, 3, 1), two("Mint", 2, 3, 995))
	p.must(api.OK, two("Burn", 1, 3, 7), two("Mint", 2, 4, 7))
	p.must(api.ErrOver, two("Remint", 1, 3, 1), two("Remint", 1, 3, 7))
	p.must(api.ErrFew, two("Remint", 1, 3, 8))
	p.must(api.OK, two("Burn", 2, 4, 3), two("Remint", 1, 3, 3))
	p.must(api.ErrOver, two("Remint", 1, 3, 1))
	p.must(api.OK, fall(1))
	p.must(api.ErrOver, two("Remint", 1, 3, 1), two("Remint", 1, 3, 4)) // also of a fallen one
	p.must(api.OK, one("Paid", 1, 4))
}

func TestBurn(t *testing.T) {
	p := burdened(t, 1000, 100, 0, 0)
	p.move(2, 1, 40) // the vault's own party
	p.move(2, 3, 10)
	p.must(api.ErrFew, two("Burn", 1, 2, 51), two("Burn", 1, 1, 41), two("Burn", 1, 3, 11), two("Burn", 1, 4, 1), two("Burn", 1, 2, 101))
	p.must(api.OK, two("Burn", 1, 2, 50), two("Burn", 1, 1, 40))
	p.mustBe(1, Vault{Collateral: 1000, Issued: 10, Going: 90})
	p.mustHave(1, 0, 0)
	p.mustHave(2, 0, 0)
	p.mustHave(3, 10, 0)
}

// Which vault issued them nobody sees: those of one may be burned for another one, up to what that issued.
func TestBurnOfAnyTokens(t *testing.T) {
	p := priced(t, even, 500, 1, 2)
	p.must(api.OK, register(1, 500), register(2, 500), one("Reserve", 1, 100), one("Reserve", 2, 60), two("Mint", 1, 3, 100), two("Mint", 2, 4, 60))
	p.must(api.ErrFew, two("Burn", 2, 3, 61))
	p.must(api.OK, two("Burn", 2, 3, 60))
	p.must(api.ErrFew, two("Burn", 2, 3, 1), two("Burn", 1, 3, 41))
	p.must(api.OK, two("Burn", 1, 4, 60), two("Burn", 1, 3, 40))
}

func TestBurnBesideLeaving(t *testing.T) {
	for _, leaving := range []money.Amount{1, 40, 99, 100} {
		p := burdened(t, 1000, 100, 0, 0)
		p.must(api.OK, one("Leave", 1, leaving))
		p.must(api.ErrFew, two("Burn", 1, 2, 101-leaving), two("Burn", 1, 2, 100))
		if leaving < 100 {
			p.must(api.OK, two("Burn", 1, 2, 100-leaving))
		}
		p.must(api.ErrFew, two("Burn", 1, 2, 1))
		p.must(api.OK, one("Stay", 1, 1), two("Burn", 1, 2, 1))
		p.mustBe(1, Vault{Collateral: 1000, Issued: leaving - 1, Going: 101 - leaving, Leaving: leaving - 1})
	}
}

// P20.3: Paid, Remint and Slash

func TestPaidAndRemintOfStanding(t *testing.T) {
	p := burdened(t, 1000, 50, 20, 30)
	p.must(api.OK, one("Paid", 1, 10))
	p.mustBe(1, Vault{Collateral: 1000, Issued: 50, Coming: 20, Going: 20})
	p.must(api.OK, two("Remint", 1, 1, 15), two("Remint", 1, 7, 5))
	p.mustBe(1, Vault{Collateral: 1000, Issued: 70, Coming: 20})
	p.mustHave(1, 15, 0)
	p.mustHave(7, 5, 0)
	p.mustPool(0, 0)
}

// fell is a pair whose vault 1 fell, and keeps so much for what is going, of which nothing else was issued.
func fell(t testing.TB, collateral, going money.Amount) *pair {
	t.Helper()
	p := burdened(t, collateral, 0, 0, going)
	p.must(api.OK, fall(1))
	p.mustBe(1, Vault{Collateral: collateral, Going: going, Fallen: true})
	p.mustPool(0, 0)
	return p
}

// Shares that are whole, that lack little to the next one, and that are less than 1; at last all of it is the pool's.
func TestPaidOfFallen(t *testing.T) {
	for _, x := range []struct {
		collateral, going money.Amount
		parts, brings     []money.Amount
	}{
		{125, 50, []money.Amount{50}, []money.Amount{125}},
		{100, 50, []money.Amount{10, 25, 15}, []money.Amount{20, 50, 30}},
		{99, 10, []money.Amount{1, 1, 8}, []money.Amount{9, 10, 80}}, // 9.9, then 10
		{199, 100, []money.Amount{1, 99}, []money.Amount{1, 198}},
		{7, 10, []money.Amount{1, 1, 1, 7}, []money.Amount{0, 0, 0, 7}},
		{7, 10, []money.Amount{2, 1, 7}, []money.Amount{1, 0, 6}},
		{0, 10, []money.Amount{3, 7}, []money.Amount{0, 0}},
		{1, 1, []money.Amount{1}, []money.Amount{1}},
		{1, 2, []money.Amount{1, 1}, []money.Amount{0, 1}},
	} {
		for _, again := range []bool{false, true} {
			p := fell(t, x.collateral, x.going)
			got, done := money.Amount(0), money.Amount(0)
			for i, a := range x.parts {
				if got, done = got+x.brings[i], done+a; again {
					p.must(api.OK, two("Remint", 1, 2, a))
					p.mustPool(got, done)
					p.mustHave(2, done, 0)
				} else {
					p.must(api.OK, one("Paid", 1, a))
					p.mustPool(got, 0)
					p.mustHave(2, 0, 0)
				}
			}
			p.mustBe(1, Vault{Fallen: true})
		}
	}
}

func TestPaidOfGreatFallen(t *testing.T) {
	for _, x := range []struct{ a, part money.Amount }{
		{1, 0}, {3, 2}, {1 << 31, 1<<31 - 1}, {1 << 60, 1<<60 - 1}, {1<<61 - 1, 1<<61 - 3}, {1<<61 + 5, 1<<61 + 3}, {top - 1, top - 4}, {top, top - 3},
	} {
		p := begin(t)
		p.set(1, 0)
		p.payIn(1, top-3)
		p.must(api.OK, register(1, top-3), one("Reserve", 1, top), two("Mint", 1, 2, top), two("Burn", 1, 2, top), fall(1))
		p.mustBe(1, Vault{Collateral: top - 3, Going: top, Fallen: true})
		p.must(api.OK, one("Paid", 1, x.a))
		p.mustPool(x.part, 0)
	}
}

func TestSlash(t *testing.T) {
	p := burdened(t, 100, 5, 4, 3)
	p.mustBring(30, two("Slash", 1, 7, 30))
	p.mustBring(1, two("Slash", 1, 1, 1)) // the vault's own party
	p.mustBring(69, two("Slash", 1, 255, 69))
	p.mustBe(1, Vault{Issued: 5, Coming: 4, Going: 3})
	p.mustHave(7, 0, 30)
	p.mustHave(1, 0, 1)
	p.mustHave(255, 0, 69)
	p.mustBring(0, two("Slash", 1, 7, 1))
	p.mustBring(0, two("Slash", 1, 7, top))
	p.mustHave(7, 0, 30)
	for _, a := range []money.Amount{101, 1000, top} {
		p = burdened(t, 100, 5, 4, 3)
		p.mustBring(100, two("Slash", 1, 7, a))
	}
}

func TestSlashOfFallen(t *testing.T) {
	for _, a := range []money.Amount{1, 99, 100, 101, top} {
		p := fell(t, 100, 10)
		p.mustBring(min(a, 100), two("Slash", 1, 7, a))
		p.mustBe(1, Vault{Collateral: 100 - min(a, 100), Going: 10, Fallen: true})
		p.must(api.OK, one("Paid", 1, 4)) // of what is left
		p.mustPool((100-min(a, 100))*4/10, 0)
	}
	p := fell(t, 0, 10)
	p.mustBring(0, two("Slash", 1, 7, 5))
}

// P20.3: Leave, Stay and Hand

func TestLeaveAndStay(t *testing.T) {
	p := burdened(t, 1000, 100, 20, 30)
	p.must(api.ErrFew, one("Leave", 1, 101), one("Stay", 1, 1))
	p.must(api.OK, one("Leave", 1, 60))
	p.must(api.ErrFew, one("Leave", 1, 41), one("Stay", 1, 61))
	p.must(api.OK, one("Leave", 1, 40), one("Stay", 1, 70))
	p.mustBe(1, Vault{Collateral: 1000, Issued: 100, Coming: 20, Going: 30, Leaving: 30})
}

// handing is a pair in which 1 gives 40 of 100 away, and 2 has promised 30, and issued 10.
func handing(t testing.TB) *pair {
	t.Helper()
	p := burdened(t, 1000, 100, 50, 20)
	p.payIn(2, 500)
	p.must(api.OK, one("Leave", 1, 40), register(2, 500), one("Reserve", 2, 40), two("Mint", 2, 3, 10))
	return p
}

func TestHand(t *testing.T) {
	p := handing(t)
	p.must(api.ErrFew, two("Hand", 1, 2, 31), two("Hand", 1, 2, 41), two("Hand", 2, 1, 1))
	p.must(api.OK, two("Hand", 1, 2, 12))
	p.mustBe(1, Vault{Collateral: 1000, Issued: 88, Coming: 50, Going: 20, Leaving: 28})
	p.mustBe(2, Vault{Collateral: 500, Issued: 22, Coming: 18})
	p.mustHave(2, 100, 0)
	p.mustHave(3, 10, 0)
	p.must(api.ErrFew, two("Hand", 1, 2, 19))
	p.must(api.OK, two("Hand", 1, 2, 18))
	p.must(api.ErrFew, two("Hand", 1, 2, 1))

	p = handing(t)
	p.must(api.OK, one("Stay", 1, 20))
	p.must(api.ErrFew, two("Hand", 1, 2, 21)) // of more than is leaving, but less than was promised
	p.must(api.OK, two("Hand", 1, 2, 20))
}

func TestHandOfWhom(t *testing.T) {
	p := handing(t)
	p.must(api.OK, register(3, 0), fall(3), register(4, 0), fall(4))
	for _, a := range []money.Amount{1, 30, 31, 41, top} {
		p.must(api.ErrSame, two("Hand", 1, 1, a), two("Hand", 2, 2, a))
		p.must(api.ErrNone, two("Hand", 1, 9, a), two("Hand", 9, 1, a), two("Hand", 9, 8, a), two("Hand", 9, 9, a), two("Hand", 9, 3, a), two("Hand", 1, 255, a))
		p.must(api.ErrState, two("Hand", 1, 3, a), two("Hand", 3, 1, a), two("Hand", 3, 3, a), two("Hand", 3, 4, a), two("Hand", 3, 9, a))
	}
}

// P20.4: Fall

func TestFall(t *testing.T) {
	for _, x := range []struct{ collateral, issued, going, keeps money.Amount }{
		{500, 150, 50, 125}, {500, 150, 0, 0}, {500, 0, 150, 500}, {500, 0, 0, 0}, {0, 0, 0, 0}, {0, 150, 50, 0}, {0, 0, 50, 0},
		{100, 2, 1, 34}, {100, 1, 2, 67}, {101, 1, 1, 51}, {1, 1, 1, 1}, {1, 99, 1, 1}, {1, 1, 99, 1}, {99, 1, 99, 99}, {1000, 999, 1, 1}, {1001, 999, 1, 2}, {999, 999, 1, 1},
	} {
		for _, coming := range []money.Amount{0, 7} {
			for _, leaving := range []money.Amount{0, x.issued} {
				p := burdened(t, x.collateral, x.issued, coming, x.going)
				if leaving > 0 {
					p.must(api.OK, one("Leave", 1, leaving))
				}
				p.must(api.OK, fall(1))
				p.mustBe(1, Vault{Collateral: x.keeps, Coming: coming, Going: x.going, Fallen: true})
				p.mustPool(x.collateral-x.keeps, x.issued)
				p.mustHave(2, x.issued, 0)
				p.must(api.ErrState, fall(1))
			}
		}
	}
}

func TestFallOfGreatOnes(t *testing.T) {
	for _, x := range []struct{ issued, going, keeps money.Amount }{
		{1, top - 1, top - 5}, {top - 1, 1, 1}, {1 << 61, 1 << 61, 1<<61 - 2}, {1 << 60, 1<<61 + 1<<60, 1<<61 + 1<<60 - 3}, {0, top, top - 5}, {top, 0, 0},
	} {
		p := begin(t)
		p.set(1, 0)
		p.payIn(1, top-5)
		p.must(api.OK, register(1, top-5), one("Reserve", 1, top), two("Mint", 1, 2, top))
		if x.going > 0 {
			p.must(api.OK, two("Burn", 1, 2, x.going))
		}
		p.must(api.OK, fall(1))
		p.mustBe(1, Vault{Collateral: x.keeps, Going: x.going, Fallen: true})
		p.mustPool(top-5-x.keeps, x.issued)
	}
}

// Several fall: the pool takes of all of them, also without a price.
func TestSeveralFall(t *testing.T) {
	p := zoo(t)
	p.tick(51, api.OK)
	p.must(api.OK, fall(1), fall(2), fall(5), fall(6), fall(255))
	p.mustBe(1, Vault{Collateral: 125, Coming: 40, Going: 20, Fallen: true})
	p.mustBe(2, Vault{Collateral: 312, Coming: 60, Going: 40, Fallen: true}) // 311.1
	p.mustPool(470+875+388+30+20, 43+140+50)
	for v := range p.book.Vaults() {
		p.must(api.ErrState, fall(v.Who))
	}
}

// What may still be done behind Fall; the deposits and the pool know of no vault.
func TestBehindFall(t *testing.T) {
	p := burdened(t, 1000, 60, 50, 40)
	p.must(api.OK, fall(1))
	p.mustBe(1, Vault{Collateral: 400, Coming: 50, Going: 40, Fallen: true})
	p.must(api.OK, one("Release", 1, 20), one("Paid", 1, 10), two("Remint", 1, 3, 10))
	p.mustBring(70, two("Slash", 1, 3, 70))
	p.mustBe(1, Vault{Collateral: 130, Coming: 30, Going: 20, Fallen: true})
	p.mustPool(800, 70)
	p.mustHave(3, 10, 70)
	for _, call := range standers() {
		p.must(api.ErrState, two(call, 1, 2, 1))
	}
	p.mustBring(114, one("Redeem", 3, 10)) // 114.2
	p.payIn(1, 9)
	p.must(api.OK, one("Deposit", 1, 9), one("Return", 1, 4), one("Deposit", 3, 184))
	p.mustHave(1, 0, 4)
	p.mustBring(686, one("Redeem", 2, 60))
	p.mustPool(0, 0)
}

// P20.4: Redeem

func TestRedeem(t *testing.T) {
	p := burdened(t, 1000, 100, 0, 0)
	p.move(2, 3, 30)
	p.must(api.ErrFew, one("Redeem", 2, 1), one("Redeem", 2, 70)) // nothing has fallen
	p.must(api.OK, fall(1))
	p.must(api.ErrFew, one("Redeem", 2, 71), one("Redeem", 2, 100), one("Redeem", 2, 101), one("Redeem", 4, 1), one("Redeem", 1, 1))
	p.mustBring(310, one("Redeem", 2, 31))
	p.mustHave(2, 39, 310)
	p.mustBring(300, one("Redeem", 3, 30))
	p.mustBring(390, one("Redeem", 2, 39))
	p.mustPool(0, 0)
	p.must(api.ErrFew, one("Redeem", 2, 1))
}

// Tokens of a vault that stands bring a share too, up to what the pool stands for.
func TestRedeemOfMoreThanThePool(t *testing.T) {
	p := priced(t, even, 500, 1, 2)
	p.must(api.OK, register(1, 500), register(2, 500), one("Reserve", 1, 50), one("Reserve", 2, 60), two("Mint", 1, 3, 50), two("Mint", 2, 4, 60), fall(1))
	p.must(api.ErrFew, one("Redeem", 4, 51), one("Redeem", 4, 60), one("Redeem", 3, 51))
	p.mustBring(500, one("Redeem", 4, 50))
	p.must(api.ErrFew, one("Redeem", 3, 1), one("Redeem", 4, 1))
	p.must(api.OK, two("Burn", 2, 3, 50))
}

// Shares are rounded down, also to nothing; the last one gets all.
func TestRedeemInParts(t *testing.T) {
	for _, x := range []struct {
		collateral, issued money.Amount
		parts, brings      []money.Amount
	}{
		{10, 4, []money.Amount{1, 3}, []money.Amount{2, 8}}, {375, 150, []money.Amount{75, 75}, []money.Amount{187, 188}}, {375, 150, []money.Amount{150}, []money.Amount{375}},
		{5, 10, []money.Amount{1, 1, 8}, []money.Amount{0, 0, 5}}, {0, 10, []money.Amount{3, 7}, []money.Amount{0, 0}}, {199, 100, []money.Amount{1, 99}, []money.Amount{1, 198}},
	} {
		p := burdened(t, x.collateral, x.issued, 0, 0)
		p.must(api.OK, fall(1))
		got := money.Amount(0)
		for i, a := range x.parts {
			p.mustBring(x.brings[i], one("Redeem", 2, a))
			got += x.brings[i]
			p.mustHave(2, p.record.pool.Issued, got)
		}
		p.mustPool(0, 0)
	}
}

func TestRedeemOfGreatPools(t *testing.T) {
	for _, a := range []money.Amount{1, 3, 1 << 60, 1<<61 - 1, top - 1, top} {
		p := begin(t)
		p.set(1, 0)
		p.payIn(1, top)
		p.must(api.OK, register(1, top), one("Reserve", 1, top), two("Mint", 1, 2, top), fall(1))
		p.mustBring(a, one("Redeem", 2, a))
		p.mustPool(top-a, top-a)
		p.mustHave(2, top-a, a)
	}
}

// P20.4: Deposit and Return

func TestDepositAndReturn(t *testing.T) {
	p := begin(t)
	p.payIn(1, 100)
	p.must(api.ErrFew, one("Deposit", 1, 101), one("Deposit", 1, top), one("Deposit", 2, 1), one("Return", 1, 1), one("Return", 2, top))
	p.must(api.OK, one("Deposit", 1, 60), one("Deposit", 1, 40))
	p.must(api.ErrFew, one("Deposit", 1, 1), one("Return", 1, 101))
	if p.book.Deposits() != 100 {
		t.Errorf("Deposits: %d", p.book.Deposits())
	}
	p.must(api.OK, one("Return", 2, 30), one("Return", 255, 69), one("Return", 1, 1))
	p.mustHave(1, 0, 1)
	p.mustHave(2, 0, 30)
	p.mustHave(255, 0, 69)
	p.must(api.ErrFew, one("Return", 1, 1))

	p = begin(t)
	p.payIn(1, top)
	p.must(api.OK, one("Deposit", 1, top), one("Return", 1, top))
}

// Collateral and deposits are accounts apart: what vaults have isn't returned, and what is deposited isn't slashed.
func TestDepositsBesideCollateral(t *testing.T) {
	p := burdened(t, 100, 0, 0, 0)
	p.payIn(2, 30)
	p.must(api.OK, one("Deposit", 2, 30))
	p.must(api.ErrFew, one("Return", 2, 31), one("Return", 1, 100), one("Less", 1, 101))
	p.mustBring(100, two("Slash", 1, 3, 130))
	p.must(api.OK, one("Return", 2, 30))
}

// P20.4: Copy

func TestCopyOfNothing(t *testing.T) {
	p := begin(t)
	q := p.apart()
	p.set(even, 3)
	p.payIn(1, 10)
	p.must(api.OK, register(1, 10))
	q.mustBeAsRecord("the copy")
	q.tick(7, api.OK)
	q.payIn(2, 5)
	q.must(api.OK, register(2, 5))
	p.mustBeAsRecord("what was copied")
}

// ends are changes of all accounts, of the clock, and of the book's own.
func (p *pair) changeAll() {
	p.t.Helper()
	p.must(api.OK, one("Deposit", 10, 5), one("Return", 10, 3), two("Mint", 1, 12, 10), two("Burn", 1, 12, 4), one("Paid", 1, 2), two("Hand", 1, 2, 10))
	p.must(api.OK, register(30, 0), one("Release", 3, 1), two("Remint", 3, 12, 2), one("Paid", 7, 20), one("More", 2, 11), fall(1), fall(255))
	p.tell(one("Redeem", 10, 9))
	p.tell(two("Slash", 2, 10, 9))
	p.payIn(40, 9)
	p.takeOut(40, 4)
	p.move(10, 41, 6)
	p.set(even+7, 2)
	p.tick(3, api.OK)
}

func TestCopy(t *testing.T) {
	p := zoo(t)
	was := p.record
	q := p.apart()
	q.changeAll()
	p.mustBeAsRecord("what was copied")
	if p.record != was {
		t.Error("what was copied has changed")
	}
	behind := q.record
	r := p.apart()
	p.changeAll()
	q.mustBeAsRecord("the copy")
	r.mustBeAsRecord("another copy")
	if p.record != behind || r.record != was {
		t.Error("the copies aren't told alike")
	}
	r.apart().apart().changeAll() // a copy of a copy
	r.mustBeAsRecord("what was copied")
}

// What the two tell is their own: an iterator of the one goes on when the other one is told something.
func TestCopyAsVaultsAreTold(t *testing.T) {
	p := zoo(t)
	q := p.apart()
	n := 0
	for v := range p.book.Vaults() {
		n++
		if v.Fallen {
			continue
		}
		q.must(api.OK, fall(v.Who))
	}
	if n != 8 {
		t.Errorf("%d vaults", n)
	}
	p.mustBeAsRecord("what was copied")
}

// P20.5: a book that isn't there

func TestNilBook(t *testing.T) {
	var b *Book
	for _, x := range acts([]token.Who{0, 1, 255}, append(wrongAmounts(), 0, 1, 100, top)...) {
		if n, e := x.on(b); n != 0 || e != api.ErrArg {
			t.Errorf("%v: %d, %d", x, n, int(e))
		}
	}
	for _, n := range []uint64{0, 1, api.MaxTicks, api.MaxTicks + 1, math.MaxUint64} {
		if e := b.Tick(n); e != api.ErrArg {
			t.Errorf("Tick(%d): %d", n, int(e))
		}
	}
	if b.Rules() != (Rules{}) || b.Now() != 0 || b.Pool() != (pool.Pool{}) || b.Deposits() != 0 {
		t.Error("something is there")
	}
	if b.Tokens() != nil || b.Purse() != nil || b.Feed() != nil || b.Copy() != nil {
		t.Error("something is there")
	}
	if price, e := b.Price(); price != 0 || e != api.ErrArg {
		t.Errorf("Price: %d, %d", price, int(e))
	}
	for w := range parties {
		if v, ok := b.Vault(token.Who(w)); v != (Vault{}) || ok {
			t.Errorf("Vault(%d): %v, %v", w, v, ok)
		}
	}
	for v := range b.Vaults() {
		t.Errorf("a vault: %v", v)
	}
}

// R1: a book that New didn't make answers, and has nothing.
func TestBookOfNothing(t *testing.T) {
	b := &Book{}
	for _, x := range acts([]token.Who{0, 1, 255}, append(wrongAmounts(), 0, 1, 100, top)...) {
		if n, e := x.on(b); n != 0 || e == api.OK {
			t.Errorf("%v: %d, %d", x, n, int(e))
		}
	}
	if c := b.Copy(); c == nil || slices.Collect(c.Vaults()) != nil {
		t.Error("Copy: something is there")
	}
}

// R3: whatever others told the book's own, each change is done whole, or not at all.
func TestOwnToldBeside(t *testing.T) {
	for _, beside := range []func(b *Book){
		func(b *Book) { b.Purse().Free(9, b.Purse().Held()) },
		func(b *Book) { b.Purse().Free(9, 50) },
		func(b *Book) { b.Tokens().Mint(9, top-b.Tokens().Total()) },
		func(b *Book) { b.Tokens().Burn(10, 183) },
		func(b *Book) { b.Purse().In(9, top/2); b.Purse().Hold(9, top/2) },
	} {
		told := zoo(t).book
		beside(told)
		was := read(told)
		for _, x := range acts([]token.Who{1, 2, 3, 7, 9, 10}, 1, 5, 7, 20, 30, 43, top) {
			b := told.Copy()
			if n, e := x.on(b); e != api.OK && (n != 0 || read(b) != was) {
				t.Errorf("%v: %d, %d; %s", x, n, int(e), unlike(read(b), was))
			}
		}
	}
}

// No account is above what it may be, though the purse was told that nothing is held.
func TestAccountsTwice(t *testing.T) {
	b, _ := New(rules())
	b.Purse().In(1, top)
	mustAnswer := func(x act, want api.Errno) {
		t.Helper()
		was := read(b)
		if n, e := x.on(b); n != 0 || e != want || e != api.OK && read(b) != was {
			t.Errorf("%v: %d, %d, want %d", x, n, int(e), int(want))
		}
	}
	mustAnswer(register(1, top), api.OK)
	b.Purse().Free(2, top)
	mustAnswer(register(2, top), api.OK)
	b.Purse().Free(1, top)
	mustAnswer(one("More", 1, 1), api.ErrOver)
	mustAnswer(one("Deposit", 1, top), api.OK)
	b.Purse().Free(1, top)
	mustAnswer(one("Deposit", 1, 1), api.ErrOver)
	mustAnswer(fall(1), api.OK)
	mustAnswer(fall(2), api.ErrOver)
	b.Purse().Out(1, top)
	mustAnswer(one("Return", 1, 5), api.ErrFew)
	mustAnswer(two("Slash", 2, 1, 5), api.ErrFew)
}

// P20.1 to P20.5: rows

// upTo is a number up to most, of any length.
func upTo(rnd *rand.Rand, most money.Amount) money.Amount {
	return money.Amount(rnd.Uint64()>>rnd.Intn(64)) % (most + 1)
}

// most is up to how much a call may be done of, as far as accounts go.
func (r *record) most(call string, w, to token.Who) money.Amount {
	v := r.vaults[w]
	switch call {
	case "Register", "More", "Deposit":
		return r.free[w]
	case "Less", "Slash":
		return v.Collateral
	case "Reserve":
		return v.Collateral / 2
	case "Release", "Mint":
		return v.Coming
	case "Burn":
		return min(v.Issued-v.Leaving, r.tokens[to])
	case "Paid", "Remint":
		return v.Going
	case "Leave":
		return v.Issued - v.Leaving
	case "Stay":
		return v.Leaving
	case "Hand":
		return min(v.Leaving, r.vaults[to].Coming)
	case "Redeem":
		return min(r.pool.Issued, r.tokens[w])
	}
	return r.deposits
}

// anyAct is a call of anybody up to so many parties, of all that there is, of one more, of any part, or of what can't be.
func (r *record) anyAct(rnd *rand.Rand, parties int) act {
	calls := allCalls()
	x := act{call: calls[rnd.Intn(len(calls))], w: token.Who(rnd.Intn(parties)), to: token.Who(rnd.Intn(parties))}
	if x.at = address(x.w); rnd.Intn(6) == 0 {
		x.at = address(x.to)
	}
	most := r.most(x.call, x.w, x.to)
	switch rnd.Intn(12) {
	case 0:
		x.a = most
	case 1:
		x.a = most + 1
	case 2:
		x.a = wrongAmounts()[rnd.Intn(len(wrongAmounts()))]
	case 3:
		x.a = upTo(rnd, 2*most)
	default:
		x.a = upTo(rnd, most)
	}
	return x
}

// step tells a pair anything, and answers which call it was, if it was done.
func (p *pair) step(rnd *rand.Rand, parties int) string {
	p.t.Helper()
	p.stepBeside(rnd, token.Who(rnd.Intn(parties)), token.Who(rnd.Intn(parties)))
	x := p.record.anyAct(rnd, parties)
	if x.call == "Fall" && rnd.Intn(12) != 0 { // else nobody stands for long
		return ""
	}
	if _, e := p.tell(x); e != api.OK {
		return ""
	}
	return x.call
}

// stepBeside tells the clock, or the book's own, now and then.
func (p *pair) stepBeside(rnd *rand.Rand, w, to token.Who) {
	p.t.Helper()
	switch rnd.Intn(30) {
	case 0:
		p.payIn(w, upTo(rnd, min(top-p.record.in, p.record.in/8+200)))
	case 1:
		p.takeOut(w, upTo(rnd, p.record.free[w]/4))
	case 2:
		if has := p.record.tokens[w]; has > 0 {
			p.move(w, to, 1+upTo(rnd, has-1))
		}
	case 3:
		p.tick(uint64(rnd.Intn(12)), api.OK)
	case 4:
		p.tick(api.MaxTicks-p.record.now+1+uint64(rnd.Intn(2)), api.ErrOver)
	case 5, 6:
		low, high := p.feed.Bounds()
		if _, told, ok := p.feed.Last(); !ok || told < p.record.now {
			p.set(min(high, max(low, p.record.last-3+rate.Price(rnd.Intn(7)))), p.record.now)
		}
	}
}

// ready is a pair in which there is collateral, and a price: of small amounts, or of great ones.
func ready(t testing.TB, rnd *rand.Rand, great bool) *pair {
	t.Helper()
	p := begin(t)
	for w := range token.Who(8) {
		if great {
			p.payIn(w, upTo(rnd, top/16))
		} else {
			p.payIn(w, 1000)
		}
	}
	if p.set(even, 0); great {
		p.set(even/2+rate.Price(rnd.Intn(api.Coin)), 1)
	}
	return p
}

// Behind each step all that can be told is as the record's, and nothing is made or lost.
func TestLongRows(t *testing.T) {
	done := map[string]int{}
	for seed := range int64(40) {
		rnd := rand.New(rand.NewSource(seed))
		p := ready(t, rnd, seed%2 == 0)
		for range 600 {
			done[p.step(rnd, 3+int(seed)/4)]++
		}
	}
	for _, call := range allCalls() {
		if done[call] < 20 {
			t.Errorf("%s was done %d times", call, done[call])
		}
	}
}

// Of a book and its copies each is told its own row.
func TestLongRowsOfCopies(t *testing.T) {
	for seed := range int64(8) {
		rnd := rand.New(rand.NewSource(100 + seed))
		l := []*pair{ready(t, rnd, seed%2 == 0)}
		for range 300 {
			p := l[rnd.Intn(len(l))]
			p.step(rnd, 10)
			if rnd.Intn(60) == 0 {
				l = append(l, p.apart())
			}
			l[rnd.Intn(len(l))].mustBeAsRecord("any of them")
		}
	}
}

// All rows of three steps, from two vaults on that have issued some, of which one is leaving.
func TestAllShortRows(t *testing.T) {
	steps := []act{
		one("Reserve", 1, 20), two("Mint", 1, 3, 9), two("Burn", 1, 3, 5), one("Paid", 1, 3), two("Remint", 1, 3, 2), two("Slash", 1, 3, 70), one("Leave", 1, 6),
		one("Stay", 1, 4), two("Hand", 1, 2, 7), fall(1), fall(2), one("Redeem", 3, 8), one("Less", 1, 30), one("More", 1, 10), one("Release", 1, 6), two("Burn", 2, 3, 3),
	}
	start := priced(t, even, 100, 1, 2)
	start.must(api.OK, register(1, 90), register(2, 80), one("Reserve", 1, 20), one("Reserve", 2, 20), two("Mint", 1, 3, 10), two("Mint", 2, 3, 5), two("Burn", 1, 3, 1), one("Leave", 1, 8))
	var goOn func(p *pair, left int)
	goOn = func(p *pair, left int) {
		for _, x := range steps {
			q := p.apart()
			if q.tell(x); left > 1 {
				goOn(q, left-1)
			}
		}
	}
	goOn(start, 3)
}

// What is answered hangs on what was told alone: two books that are told the same row are the same.
func TestToldAlike(t *testing.T) {
	for seed := range int64(4) {
		p, q := ready(t, rand.New(rand.NewSource(seed)), true), ready(t, rand.New(rand.NewSource(seed)), true)
		one, other := rand.New(rand.NewSource(seed)), rand.New(rand.NewSource(seed))
		for range 200 {
			p.step(one, 20)
			q.step(other, 20)
		}
		if read(p.book) != read(q.book) {
			t.Error("told alike, they aren't the same")
		}
	}
}
