package book

import (
	"fmt"
	"math"
	"math/big"
	"math/bits"
	"slices"
	"testing"

	"pontage/api"
	"pontage/lock"
	"pontage/money"
	"pontage/oracle"
	"pontage/pool"
	"pontage/purse"
	"pontage/rate"
	"pontage/token"
)

const (
	parties = 256
	top     = money.Amount(1 << 62)
	full    = money.Amount(math.MaxUint64)
	even    = rate.Price(api.Coin) // a part is worth 1
)

// act is something that a book is told.
type act struct {
	call  string
	w, to token.Who
	a     money.Amount
	at    lock.Address
}

// one is told of one party, two of a vault's and another one.
func one(call string, w token.Who, a money.Amount) act {
	return act{call: call, w: w, a: a}
}

func two(call string, w, to token.Who, a money.Amount) act {
	return act{call: call, w: w, to: to, a: a}
}

func fall(w token.Who) act {
	return act{call: "Fall", w: w}
}

// register is of a vault whose address is as its party.
func register(w token.Who, collateral money.Amount) act {
	return act{call: "Register", w: w, a: collateral, at: address(w)}
}

func address(w token.Who) lock.Address {
	return lock.Address{byte(w), 19: 7}
}

// on tells a book.
func (x act) on(b *Book) (money.Amount, api.Errno) {
	switch x.call {
	case "Register":
		return 0, b.Register(x.w, x.at, x.a)
	case "More":
		return 0, b.More(x.w, x.a)
	case "Less":
		return 0, b.Less(x.w, x.a)
	case "Reserve":
		return 0, b.Reserve(x.w, x.a)
	case "Release":
		return 0, b.Release(x.w, x.a)
	case "Mint":
		return 0, b.Mint(x.w, x.to, x.a)
	case "Burn":
		return 0, b.Burn(x.w, x.to, x.a)
	case "Paid":
		return 0, b.Paid(x.w, x.a)
	case "Remint":
		return 0, b.Remint(x.w, x.to, x.a)
	case "Slash":
		return b.Slash(x.w, x.to, x.a)
	case "Leave":
		return 0, b.Leave(x.w, x.a)
	case "Stay":
		return 0, b.Stay(x.w, x.a)
	case "Hand":
		return 0, b.Hand(x.w, x.to, x.a)
	case "Fall":
		return 0, b.Fall(x.w)
	case "Redeem":
		return b.Redeem(x.w, x.a)
	case "Deposit":
		return 0, b.Deposit(x.w, x.a)
	case "Return":
		return 0, b.Return(x.w, x.a)
	}
	panic(x.call)
}

// standers are calls of vaults that haven't fallen alone, ofVaults all calls of vaults that are there, others the rest.
func standers() []string {
	return []string{"More", "Less", "Reserve", "Mint", "Burn", "Leave", "Stay", "Hand", "Fall"}
}

func ofVaults() []string {
	return append(standers(), "Release", "Paid", "Remint", "Slash")
}

func others() []string {
	return []string{"Register", "Redeem", "Deposit", "Return"}
}

func allCalls() []string {
	return append(ofVaults(), others()...)
}

// ofTwo: is another party told?
func ofTwo(call string) bool {
	return slices.Contains([]string{"Mint", "Burn", "Remint", "Slash", "Hand"}, call)
}

// record is all that a book can tell, by parties.
type record struct {
	rules        Rules
	now          uint64
	tokens, free [parties]money.Amount
	in, out      money.Amount
	last         rate.Price
	told         uint64
	pool         pool.Pool
	vaults       [parties]Vault
	there        [parties]bool
	deposits     money.Amount
}

// read asks a book for all that it can tell.
func read(b *Book) record {
	r := record{rules: b.Rules(), now: b.Now(), pool: b.Pool(), deposits: b.Deposits()}
	r.in, r.out = b.Purse().Paid()
	r.last, r.told, _ = b.Feed().Last()
	for i := range parties {
		w := token.Who(i)
		r.tokens[i], r.free[i] = b.Tokens().Of(w), b.Purse().Of(w)
		r.vaults[i], r.there[i] = b.Vault(w)
	}
	return r
}

func number(a money.Amount) *big.Int {
	return new(big.Int).SetUint64(uint64(a))
}

// sum doesn't go round, however many they are.
func sum(l ...money.Amount) *big.Int {
	var high, low, more uint64
	for _, a := range l {
		low, more = bits.Add64(low, uint64(a), 0)
		high += more
	}
	s := new(big.Int).SetUint64(high)
	return s.Lsh(s, 64).Or(s, new(big.Int).SetUint64(low))
}

func tooMuch(l ...money.Amount) bool {
	return sum(l...).Cmp(number(top)) > 0
}

// share is a times up, by by, rounded down or up.
func share(a, up, by money.Amount, more bool) money.Amount {
	if by == 0 {
		return 0
	}
	product := new(big.Int).Mul(number(a), number(up))
	if more {
		product.Add(product, number(by-1))
	}
	return money.Amount(product.Quo(product, number(by)).Uint64())
}

// sorted are all vaults, rising.
func (r *record) sorted() []Vault {
	var l []Vault
	for i, v := range r.vaults {
		if r.there[i] {
			l = append(l, v)
		}
	}
	return l
}

func (r *record) lives(at lock.Address) bool {
	return slices.ContainsFunc(r.sorted(), func(v Vault) bool { return v.Address == at })
}

func (r *record) price() (rate.Price, api.Errno) {
	switch {
	case r.last == 0:
		return 0, api.ErrNone
	case r.now < r.told:
		return 0, api.ErrTime
	case r.now-r.told > r.rules.Oracle.Age:
		return 0, api.ErrStale
	}
	return r.last, api.OK
}

// lacks: is a good price there, by which the collateral isn't enough for the burden by Secure?
func (r *record) lacks(collateral *big.Int, burden ...money.Amount) bool {
	p, e := r.price()
	has := new(big.Int).Mul(collateral, big.NewInt(api.Coin*api.Mille))
	asks := sum(burden...)
	asks.Mul(asks, new(big.Int).SetUint64(uint64(p)))
	asks.Mul(asks, new(big.Int).SetUint64(r.rules.Bands.Secure))
	return e == api.OK && has.Cmp(asks) < 0
}

// faults are all errors that hold, in the order in which the chapter names them.
type faults []api.Errno

func (l *faults) add(is bool, e api.Errno) {
	if is {
		*l = append(*l, e)
	}
}

// addVault adds those of a party's vault.
func (l *faults) addVault(r *record, w token.Who, mayBeFallen bool) {
	l.add(!r.there[w], api.ErrNone)
	l.add(r.vaults[w].Fallen && !mayBeFallen, api.ErrState)
}

func (r *record) faults(x act) faults {
	var l faults
	if x.call != "Fall" { // of no amount
		l.add(x.a > top || x.a == 0 && x.call != "Register", api.ErrArg)
	}
	if slices.Contains(ofVaults(), x.call) {
		l.addVault(r, x.w, !slices.Contains(standers(), x.call))
	}
	v, to := r.vaults[x.w], r.vaults[x.to]
	burden := []money.Amount{v.Issued, v.Coming, v.Going}
	_, noPrice := r.price()
	switch x.call {
	case "Register":
		l.add(r.there[x.w] || r.lives(x.at), api.ErrSame)
		l.add(len(r.sorted()) == 64, api.ErrFull)
		l.add(r.free[x.w] < x.a, api.ErrFew)
	case "More", "Deposit":
		l.add(r.free[x.w] < x.a, api.ErrFew)
	case "Less":
		l.add(v.Collateral < x.a, api.ErrFew)
		l.add(noPrice != api.OK, noPrice)
		l.add(r.lacks(new(big.Int).Sub(number(v.Collateral), number(x.a)), burden...), api.ErrSecure)
	case "Reserve":
		burden = append(burden, x.a)
		l.add(noPrice != api.OK, noPrice)
		l.add(tooMuch(burden...), api.ErrOver)
		l.add(r.lacks(number(v.Collateral), burden...), api.ErrSecure)
	case "Release":
		l.add(v.Coming < x.a, api.ErrFew)
	case "Mint":
		l.add(v.Coming < x.a, api.ErrFew)
		l.add(tooMuch(append(r.tokens[:], x.a)...), api.ErrOver)
	case "Burn":
		l.add(v.Issued < x.a || v.Issued-x.a < v.Leaving, api.ErrFew)
		l.add(r.tokens[x.to] < x.a, api.ErrFew)
	case "Paid":
		l.add(v.Going < x.a, api.ErrFew)
	case "Remint":
		l.add(v.Going < x.a, api.ErrFew)
		l.add(tooMuch(append(r.tokens[:], x.a)...), api.ErrOver)
	case "Leave":
		l.add(v.Issued < x.a || v.Issued-x.a < v.Leaving, api.ErrFew)
	case "Stay":
		l.add(v.Leaving < x.a, api.ErrFew)
	case "Hand":
		l.addVault(r, x.to, false)
		l.add(x.w == x.to, api.ErrSame)
		l.add(v.Leaving < x.a || to.Coming < x.a, api.ErrFew)
	case "Redeem":
		l.add(r.pool.Issued < x.a || r.tokens[x.w] < x.a, api.ErrFew)
	case "Return":
		l.add(r.deposits < x.a, api.ErrFew)
	}
	return l
}

// change is what happens where nothing is wrong.
func (r *record) change(x act) (brings money.Amount) {
	v, to := &r.vaults[x.w], &r.vaults[x.to]
	switch x.call {
	case "Register":
		r.there[x.w] = true
		*v = Vault{Who: x.w, Address: x.at, Collateral: x.a}
		r.free[x.w] -= x.a
	case "More":
		r.free[x.w] -= x.a
		v.Collateral += x.a
	case "Less":
		v.Collateral -= x.a
		r.free[x.w] += x.a
	case "Reserve":
		v.Coming += x.a
	case "Release":
		v.Coming -= x.a
	case "Mint":
		v.Coming -= x.a
		v.Issued += x.a
		r.tokens[x.to] += x.a
	case "Burn":
		v.Issued -= x.a
		v.Going += x.a
		r.tokens[x.to] -= x.a
	case "Paid":
		r.over(v, x.a)
	case "Remint":
		r.over(v, x.a)
		r.tokens[x.to] += x.a
		if v.Fallen {
			r.pool.Issued += x.a
		} else {
			v.Issued += x.a
		}
	case "Slash":
		brings = min(x.a, v.Collateral)
		v.Collateral -= brings
		r.free[x.to] += brings
	case "Leave":
		v.Leaving += x.a
	case "Stay":
		v.Leaving -= x.a
	case "Hand":
		v.Leaving -= x.a
		v.Issued -= x.a
		to.Coming -= x.a
		to.Issued += x.a
	case "Fall":
		keeps := share(v.Collateral, v.Going, v.Issued+v.Going, true)
		r.pool.Collateral += v.Collateral - keeps
		r.pool.Issued += v.Issued
		v.Collateral, v.Issued, v.Leaving, v.Fallen = keeps, 0, 0, true
	case "Redeem":
		brings = share(r.pool.Collateral, x.a, r.pool.Issued, false)
		r.pool.Collateral -= brings
		r.pool.Issued -= x.a
		r.tokens[x.w] -= x.a
		r.free[x.w] += brings
	case "Deposit":
		r.free[x.w] -= x.a
		r.deposits += x.a
	case "Return":
		r.deposits -= x.a
		r.free[x.w] += x.a
	}
	return brings
}

// over: so much isn't going any more, for which a fallen one kept collateral.
func (r *record) over(v *Vault, a money.Amount) {
	if v.Fallen {
		part := share(v.Collateral, a, v.Going, false)
		v.Collateral -= part
		r.pool.Collateral += part
	}
	v.Going -= a
}

// pair is a book, what it answered at first as its own, and a record that is told the same.
type pair struct {
	t      testing.TB
	book   *Book
	tokens *token.Ledger
	purse  *purse.Purse
	feed   *oracle.Feed
	record record
}

// rules are those of the chapter's example, by which a price may go up to twice what it was.
func rules() Rules {
	return Rules{Bands: rate.Bands{Secure: 2000, Premium: 1500, Low: 1200}, Oracle: oracle.Rules{Move: 1000, Age: 50},
		Issue: 10, Redeem: 20, Replace: 30, Grief: 50, Penalty: 100, Dust: 10}
}

// beginBy is a pair in which there is nothing.
func beginBy(t testing.TB, r Rules) *pair {
	t.Helper()
	b, e := New(r)
	if e != api.OK || b == nil {
		t.Fatalf("New: %v, %d", b, int(e))
	}
	return of(t, b, record{rules: r})
}

func of(t testing.TB, b *Book, r record) *pair {
	t.Helper()
	p := &pair{t, b, b.Tokens(), b.Purse(), b.Feed(), r}
	p.mustBeAsRecord("at first")
	return p
}

func begin(t testing.TB) *pair {
	t.Helper()
	return beginBy(t, rules())
}

// priced is a pair with a price at the tick 0, in which parties have so much free.
func priced(t testing.TB, price rate.Price, each money.Amount, who ...token.Who) *pair {
	t.Helper()
	p := begin(t)
	p.set(price, 0)
	for _, w := range who {
		p.payIn(w, each)
	}
	return p
}

// apart is a pair of a copy of the book, and one of the record.
func (p *pair) apart() *pair {
	p.t.Helper()
	b := p.book.Copy()
	if b == nil || b == p.book || b.Tokens() == p.tokens || b.Purse() == p.purse || b.Feed() == p.feed {
		p.t.Fatal("Copy: none, or something that is the same")
	}
	q := of(p.t, b, p.record)
	p.mustBeAsRecord("what was copied")
	return q
}

// mustBeAsRecord checks all that a book tells, and twice, as asking changes nothing.
func (p *pair) mustBeAsRecord(what string) {
	p.t.Helper()
	if p.book.Tokens() != p.tokens || p.book.Purse() != p.purse || p.book.Feed() != p.feed {
		p.t.Fatalf("%s: other tokens, another purse or feed", what)
	}
	if got := read(p.book); got != p.record {
		p.t.Fatalf("%s: %s", what, unlike(got, p.record))
	}
	if l, want := slices.Collect(p.book.Vaults()), p.record.sorted(); !slices.Equal(l, want) {
		p.t.Fatalf("%s: Vaults: %v, want %v", what, l, want)
	}
	price, e := p.book.Price()
	if want, wantErr := p.record.price(); price != want || e != wantErr {
		p.t.Fatalf("%s: Price: %d, %d; want %d, %d", what, price, int(e), want, int(wantErr))
	}
	p.mustAddUp(what)
}

// mustAddUp checks that nothing is made or lost, by what the book tells alone.
func (p *pair) mustAddUp(what string) {
	p.t.Helper()
	issued, collateral := []money.Amount{p.book.Pool().Issued}, []money.Amount{p.book.Pool().Collateral, p.book.Deposits()}
	for v := range p.book.Vaults() {
		issued, collateral = append(issued, v.Issued), append(collateral, v.Collateral)
		if tooMuch(v.Issued, v.Coming, v.Going) || v.Burden() != v.Issued+v.Coming+v.Going || v.Leaving > v.Issued {
			p.t.Fatalf("%s: %v: Burden: %d", what, v, v.Burden())
		}
	}
	if total := p.tokens.Total(); sum(issued...).Cmp(number(total)) != 0 {
		p.t.Fatalf("%s: %d tokens, of which %d are issued", what, total, sum(issued...))
	}
	if held := p.purse.Held(); sum(collateral...).Cmp(number(held)) != 0 {
		p.t.Fatalf("%s: %d are held, of which %d are accounted for", what, held, sum(collateral...))
	}
}

// unlike tells where two records differ.
func unlike(got, want record) string {
	for i := range parties {
		switch {
		case got.vaults[i] != want.vaults[i] || got.there[i] != want.there[i]:
			return fmt.Sprintf("the vault of %d: %v, %v; want %v, %v", i, got.vaults[i], got.there[i], want.vaults[i], want.there[i])
		case got.tokens[i] != want.tokens[i]:
			return fmt.Sprintf("%d has %d tokens, want %d", i, got.tokens[i], want.tokens[i])
		case got.free[i] != want.free[i]:
			return fmt.Sprintf("of %d %d is free, want %d", i, got.free[i], want.free[i])
		}
	}
	tell := func(r record) string {
		return fmt.Sprint(r.rules, " now ", r.now, " paid ", r.in, r.out, " price ", r.last, r.told, " pool ", r.pool, " deposits ", r.deposits)
	}
	return tell(got) + ", want " + tell(want)
}

// tell tells both of it, and checks that they answer the same, and are the same then.
func (p *pair) tell(x act) (money.Amount, api.Errno) {
	p.t.Helper()
	var want money.Amount
	wantErr := api.OK
	if l := p.record.faults(x); len(l) > 0 {
		wantErr = l[0]
	} else {
		want = p.record.change(x)
	}
	n, e := x.on(p.book)
	if n != want || e != wantErr {
		p.t.Fatalf("%v: %d, %d; want %d, %d", x, n, int(e), want, int(wantErr))
	}
	p.mustBeAsRecord(fmt.Sprint(x))
	return n, e
}

// must holds answers against one that is written out, too.
func (p *pair) must(want api.Errno, l ...act) {
	p.t.Helper()
	for _, x := range l {
		if _, e := p.tell(x); e != want {
			p.t.Fatalf("%v: %d, want %d", x, int(e), int(want))
		}
	}
}

// mustBring holds an amount that is answered against one that is written out.
func (p *pair) mustBring(want money.Amount, x act) {
	p.t.Helper()
	if n, e := p.tell(x); n != want || e != api.OK {
		p.t.Fatalf("%v: %d, %d; want %d", x, n, int(e), want)
	}
}

// mustBe holds a vault against one that is written out, but for whose it is.
func (p *pair) mustBe(w token.Who, want Vault) {
	p.t.Helper()
	want.Who, want.Address = w, address(w)
	if v, ok := p.book.Vault(w); v != want || !ok {
		p.t.Fatalf("the vault of %d: %v, %v; want %v", w, v, ok, want)
	}
}

func (p *pair) mustPool(collateral, issued money.Amount) {
	p.t.Helper()
	if got := p.book.Pool(); got != (pool.Pool{Collateral: collateral, Issued: issued}) {
		p.t.Fatalf("Pool: %v, want %d for %d", got, collateral, issued)
	}
}

// mustHave holds a party's tokens, and what of its collateral is free, against what is written out.
func (p *pair) mustHave(w token.Who, tokens, free money.Amount) {
	p.t.Helper()
	if n, m := p.tokens.Of(w), p.purse.Of(w); n != tokens || m != free {
		p.t.Fatalf("%d has %d tokens, and %d free; want %d and %d", w, n, m, tokens, free)
	}
}

// The book's own are told as other layers' objects are.

func (p *pair) set(price rate.Price, at uint64) {
	p.t.Helper()
	if e := p.feed.Set(price, at); e != api.OK {
		p.t.Fatalf("Set(%d, %d): %d", price, at, int(e))
	}
	p.record.last, p.record.told = price, at
	p.mustBeAsRecord("Set")
}

func (p *pair) payIn(w token.Who, a money.Amount) {
	p.t.Helper()
	if e := p.purse.In(w, a); e != api.OK {
		p.t.Fatalf("In(%d, %d): %d", w, a, int(e))
	}
	p.record.free[w] += a
	p.record.in += a
	p.mustBeAsRecord("In")
}

func (p *pair) takeOut(w token.Who, a money.Amount) {
	p.t.Helper()
	if e := p.purse.Out(w, a); e != api.OK {
		p.t.Fatalf("Out(%d, %d): %d", w, a, int(e))
	}
	p.record.free[w] -= a
	p.record.out += a
	p.mustBeAsRecord("Out")
}

func (p *pair) move(from, to token.Who, a money.Amount) {
	p.t.Helper()
	if e := p.tokens.Move(from, to, a); e != api.OK {
		p.t.Fatalf("Move(%d, %d, %d): %d", from, to, a, int(e))
	}
	p.record.tokens[from] -= a
	p.record.tokens[to] += a
	p.mustBeAsRecord("Move")
}

// tick is the book's own clock.
func (p *pair) tick(n uint64, want api.Errno) {
	p.t.Helper()
	if e := p.book.Tick(n); e != want {
		p.t.Fatalf("Tick(%d) at %d: %d, want %d", n, p.record.now, int(e), int(want))
	}
	if want == api.OK {
		p.record.now += n
	}
	p.mustBeAsRecord("Tick")
}
