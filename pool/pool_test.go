package pool

import (
	"math"
	"math/big"
	"math/rand"
	"testing"

	"pontage/api"
	"pontage/money"
)

const (
	top  = money.Amount(1 << 62)
	full = money.Amount(math.MaxUint64)
)

// amounts are right ones, those at the ends among them.
func amounts() []money.Amount {
	return []money.Amount{0, 1, 2, 3, 4, 7, 10, 1000, 1<<31 - 1, 1 << 32, 1<<61 - 1, 1 << 61, 1<<61 + 1, top - 2, top - 1, top}
}

func wrongAmounts() []money.Amount {
	return []money.Amount{top + 1, top + 2, 1<<63 - 1, 1 << 63, 1<<63 + 1, full - 1, full}
}

func allAmounts() []money.Amount {
	return append(amounts(), wrongAmounts()...)
}

// pools are such with little, with much, and with nothing of either.
func pools() []Pool {
	few := []money.Amount{0, 1, 2, 3, 10, 1000, 1 << 32, 1<<61 + 1, top - 1, top}
	var l []Pool
	for _, collateral := range few {
		for _, issued := range few {
			l = append(l, Pool{collateral, issued})
		}
	}
	return l
}

func number(a money.Amount) *big.Int {
	return new(big.Int).SetUint64(uint64(a))
}

// account is all that ever came and went, which together may well be above what there may be at once.
type account struct{ in, out *big.Int }

func (a account) left() *big.Int {
	return new(big.Int).Sub(a.in, a.out)
}

func (a account) come(more money.Amount) account {
	return account{new(big.Int).Add(a.in, number(more)), a.out}
}

func (a account) gone(more money.Amount) account {
	return account{a.in, new(big.Int).Add(a.out, number(more))}
}

func (a account) over(more money.Amount) bool {
	return a.come(more).left().Cmp(number(top)) > 0
}

// record is both accounts of a pool, of numbers without an end.
type record struct{ collateral, issued account }

func (r *record) take(collateral, issued money.Amount) api.Errno {
	switch {
	case collateral > top || issued > top:
		return api.ErrArg
	case r.collateral.over(collateral) || r.issued.over(issued):
		return api.ErrOver
	}
	r.collateral, r.issued = r.collateral.come(collateral), r.issued.come(issued)
	return api.OK
}

func (r *record) share(a money.Amount) (money.Amount, api.Errno) {
	switch {
	case a == 0 || a > top:
		return 0, api.ErrArg
	case r.issued.left().Cmp(number(a)) < 0:
		return 0, api.ErrFew
	}
	product := new(big.Int).Mul(r.collateral.left(), number(a))
	return money.Amount(product.Quo(product, r.issued.left()).Uint64()), api.OK
}

func (r *record) burn(a money.Amount) (money.Amount, api.Errno) {
	s, e := r.share(a)
	if e == api.OK {
		r.collateral, r.issued = r.collateral.gone(s), r.issued.gone(a)
	}
	return s, e
}

// pair is a pool, and a record that is told the same.
type pair struct {
	t      testing.TB
	pool   *Pool
	record record
}

// begin is a pair that has nothing, and stands for nothing.
func begin(t testing.TB) *pair {
	t.Helper()
	none := account{new(big.Int), new(big.Int)}
	p := &pair{t: t, pool: &Pool{}, record: record{none, none}}
	p.mustBeAsRecord("a new one")
	return p
}

// with is a pair that took so much.
func with(t testing.TB, collateral, issued money.Amount) *pair {
	t.Helper()
	p := begin(t)
	p.mustTake(collateral, issued, api.OK)
	return p
}

// mustHold checks what there is of both.
func (p *pair) mustHold(what string) {
	p.t.Helper()
	c, i := p.record.collateral.left(), p.record.issued.left()
	if number(p.pool.Collateral).Cmp(c) != 0 || number(p.pool.Issued).Cmp(i) != 0 {
		p.t.Fatalf("%s: %d for %d, want %v for %v", what, p.pool.Collateral, p.pool.Issued, c, i)
	}
}

// mustShare checks the share of an amount, and that asking for it changes nothing.
func (p *pair) mustShare(what string, a money.Amount) {
	p.t.Helper()
	want, wantErr := p.record.share(a)
	if s, e := p.pool.Share(a); s != want || e != wantErr {
		p.t.Fatalf("%s: %v: Share(%d): %d, %d; want %d, %d", what, *p.pool, a, s, int(e), want, int(wantErr))
	}
}

// mustBeAsRecord checks what a pool has, and shares around all at which something changes.
func (p *pair) mustBeAsRecord(what string) {
	p.t.Helper()
	p.mustHold(what)
	all := p.pool.Issued
	for _, a := range []money.Amount{0, 1, 2, all / 3, all / 2, all - 1, all, all + 1, all + 2, top, top + 1, 1 << 63, full} { // of 0, one less goes round
		p.mustShare(what, a)
	}
	p.mustHold("asked, " + what)
}

// take tells both of it, and checks that they answer the same.
func (p *pair) take(collateral, issued money.Amount) api.Errno {
	p.t.Helper()
	want := p.record.take(collateral, issued)
	e := p.pool.Take(collateral, issued)
	if e != want {
		p.t.Fatalf("Take(%d, %d): %d, want %d", collateral, issued, int(e), int(want))
	}
	p.mustBeAsRecord("Take")
	return e
}

func (p *pair) burn(a money.Amount) (money.Amount, api.Errno) {
	p.t.Helper()
	want, wantErr := p.record.burn(a)
	s, e := p.pool.Burn(a)
	if s != want || e != wantErr {
		p.t.Fatalf("Burn(%d): %d, %d; want %d, %d", a, s, int(e), want, int(wantErr))
	}
	p.mustBeAsRecord("Burn")
	return s, e
}

// mustTake and mustBurn hold an answer against one that is written out, too.
func (p *pair) mustTake(collateral, issued money.Amount, want api.Errno) {
	p.t.Helper()
	if e := p.take(collateral, issued); e != want {
		p.t.Fatalf("Take(%d, %d): %d, want %d", collateral, issued, int(e), int(want))
	}
}

func (p *pair) mustBurn(a, want money.Amount, wantErr api.Errno) {
	p.t.Helper()
	s, e := p.pool.Share(a)
	if s != want || e != wantErr {
		p.t.Fatalf("Share(%d): %d, %d; want %d, %d", a, s, int(e), want, int(wantErr))
	}
	if s, e = p.burn(a); s != want || e != wantErr {
		p.t.Fatalf("Burn(%d): %d, %d; want %d, %d", a, s, int(e), want, int(wantErr))
	}
}

func (p *pair) mustBe(collateral, issued money.Amount) {
	p.t.Helper()
	if *p.pool != (Pool{collateral, issued}) {
		p.t.Fatalf("%d for %d, want %d for %d", p.pool.Collateral, p.pool.Issued, collateral, issued)
	}
}

// The chapter's example.
func TestExample(t *testing.T) {
	p := with(t, 10, 4)
	p.mustBurn(1, 2, api.OK)
	p.mustBe(8, 3)
	p.mustBurn(3, 8, api.OK)
	p.mustBe(0, 0)
	p.mustBurn(1, 0, api.ErrFew)
}

// P19.1: a pool that has nothing, and stands for nothing

func TestNothing(t *testing.T) {
	for _, a := range allAmounts() {
		want := api.ErrFew
		if a == 0 || a > top {
			want = api.ErrArg
		}
		p := begin(t)
		p.mustBurn(a, 0, want)
		p.mustBe(0, 0)
	}
}

// P19.1: Take

// All amounts by all, into all pools.
func TestTake(t *testing.T) {
	for _, from := range pools() {
		for _, collateral := range allAmounts() {
			for _, issued := range allAmounts() {
				p := with(t, from.Collateral, from.Issued)
				if p.take(collateral, issued) == api.OK {
					p.mustBe(from.Collateral+collateral, from.Issued+issued)
				} else {
					p.mustBe(from.Collateral, from.Issued)
				}
			}
		}
	}
}

func TestTakeOfEither(t *testing.T) {
	for _, a := range []money.Amount{0, 1, 2, 1000, top - 1, top} {
		p := begin(t)
		p.mustTake(a, 0, api.OK)
		p.mustBe(a, 0)
		p = begin(t)
		p.mustTake(0, a, api.OK)
		p.mustBe(0, a)
		p = begin(t)
		p.mustTake(a, a, api.OK)
		p.mustBe(a, a)
		p.mustTake(0, 0, api.OK)
		p.mustBe(a, a)
	}
}

func TestTakeOfWrongAmounts(t *testing.T) {
	for _, from := range []Pool{{}, {5, 7}, {top, 0}, {0, top}, {top, top}} {
		for _, a := range wrongAmounts() {
			p := with(t, from.Collateral, from.Issued)
			for _, other := range allAmounts() {
				p.mustTake(a, other, api.ErrArg)
				p.mustTake(other, a, api.ErrArg)
			}
			p.mustBe(from.Collateral, from.Issued)
		}
	}
}

// Up to just what there may be of either, and one more, where the other still has room.
func TestTakeUpToTheMost(t *testing.T) {
	for _, has := range []money.Amount{1, 2, 1 << 61, top - 1, top} {
		for _, other := range []money.Amount{0, 1, 5} {
			p := with(t, has, 3)
			p.mustTake(top-has+1, other, api.ErrOver)
			p.mustBe(has, 3)
			p.mustTake(top-has, other, api.OK)
			p.mustBe(top, 3+other)
			p.mustTake(1, other, api.ErrOver)
			p.mustTake(top, 0, api.ErrOver)
			p.mustTake(0, other, api.OK)
			p.mustBe(top, 3+2*other)

			p = with(t, 3, has)
			p.mustTake(other, top-has+1, api.ErrOver)
			p.mustBe(3, has)
			p.mustTake(other, top-has, api.OK)
			p.mustBe(3+other, top)
			p.mustTake(other, 1, api.ErrOver)
			p.mustTake(0, top, api.ErrOver)
			p.mustTake(other, 0, api.OK)
			p.mustBe(3+2*other, top)
		}
	}
	p := with(t, top-1, top-1)
	p.mustTake(2, 2, api.ErrOver)
	p.mustTake(2, 1, api.ErrOver)
	p.mustTake(1, 2, api.ErrOver)
	p.mustBe(top-1, top-1)
	p.mustTake(1, 1, api.OK)
	p.mustBe(top, top)
}

// One that can't be goes ahead of one for which there is no room, whichever stands first.
func TestTakeOrderOfErrors(t *testing.T) {
	p := with(t, top, top)
	for _, over := range []money.Amount{1, top - 1, top} {
		for _, wrong := range wrongAmounts() {
			p.mustTake(over, wrong, api.ErrArg)
			p.mustTake(wrong, over, api.ErrArg)
			p.mustTake(wrong, wrong, api.ErrArg)
			p.mustTake(over, over, api.ErrOver)
			p.mustTake(over, 0, api.ErrOver)
			p.mustTake(0, over, api.ErrOver)
		}
	}
	p.mustBe(top, top)
}

// P19.1: Share and Burn

// All amounts, and those around all that it stands for, of all pools.
func TestShareAndBurn(t *testing.T) {
	for _, from := range pools() {
		all := from.Issued
		for _, a := range append(allAmounts(), all/3, all/2, all-1, all, all+1) {
			p := with(t, from.Collateral, from.Issued)
			asked, e := p.pool.Share(a)
			burned, f := p.burn(a)
			if asked != burned || e != f {
				t.Errorf("%v: Share(%d): %d, %d; Burn: %d, %d", from, a, asked, int(e), burned, int(f))
			}
			if e == api.OK {
				p.mustBe(from.Collateral-asked, from.Issued-a)
			} else {
				p.mustBe(from.Collateral, from.Issued)
			}
		}
	}
}

func TestWrongSharesAndThoseOfMore(t *testing.T) {
	for _, from := range pools() {
		p := with(t, from.Collateral, from.Issued)
		p.mustBurn(0, 0, api.ErrArg)
		for _, a := range wrongAmounts() {
			p.mustBurn(a, 0, api.ErrArg) // also where it stands for fewer
		}
		for _, a := range []money.Amount{from.Issued + 1, from.Issued + 2, top} {
			if from.Issued < a && a <= top {
				p.mustBurn(a, 0, api.ErrFew)
			}
		}
		p.mustBe(from.Collateral, from.Issued)
	}
}

// Shares that are whole, that lack little to the next one, and that are less than 1.
func TestSharesWrittenOut(t *testing.T) {
	for _, row := range []struct{ collateral, issued, burned, want money.Amount }{
		{10, 5, 1, 2}, {10, 5, 4, 8}, {10, 5, 5, 10}, {6, 4, 2, 3}, {7, 7, 6, 6}, {1000, 10, 3, 300}, {3, 1, 1, 3},
		{10, 4, 1, 2}, {10, 4, 3, 7}, {9, 5, 1, 1}, {9, 5, 4, 7}, {11, 6, 1, 1}, {11, 3, 2, 7}, {1999, 1000, 1, 1}, {2999, 1000, 1, 2},
		{1, 2, 1, 0}, {9, 10, 1, 0}, {999, 1000, 1, 0}, {1, 1000, 999, 0}, {1, 1000, 1000, 1}, {top - 1, top, 1, 0}, {1, top, top - 1, 0}, {1, top, top, 1},
		{0, 1, 1, 0}, {0, 5, 3, 0}, {0, 5, 5, 0}, {0, top, top, 0}, {0, top, 1, 0},
		{5, 1, 1, 5}, {top, 1, 1, top}, {0, 1, 1, 0},
		{top, top, 1, 1}, {top, top, top - 1, top - 1}, {top, top, top, top}, {top, top, 1 << 61, 1 << 61},
		{top, top - 1, 1, 1}, {top, top - 1, top - 2, top - 2}, {top - 1, top, top - 1, top - 2}, {top, 3, 1, 1537228672809129301}, {top, 3, 2, 3074457345618258602},
		{top, 1 << 61, 1, 2}, {top, 1 << 61, 1<<61 - 1, top - 2}, {1 << 40, 1 << 41, 1 << 39, 1 << 38}, {1 << 40, 1 << 41, 1<<39 + 1, 1 << 38}, {1 << 61, top, 3, 1},
	} {
		p := with(t, row.collateral, row.issued)
		p.mustBurn(row.burned, row.want, api.OK)
		p.mustBe(row.collateral-row.want, row.issued-row.burned)
	}
}

// Products that are above 64 bits: of small and of great shares alike.
func TestGreatProducts(t *testing.T) {
	for seed := range int64(3) {
		rnd := rand.New(rand.NewSource(seed))
		for range 1500 {
			collateral, issued := upTo(rnd, top), 1+upTo(rnd, top-1)
			p := with(t, collateral, issued)
			a := 1 + upTo(rnd, issued-1)
			s, e := p.burn(a)
			if e != api.OK {
				t.Fatalf("Burn: %d", int(e))
			}
			mustBeRounded(t, collateral, issued, a, s)
		}
	}
}

// upTo is a number up to most, of any length.
func upTo(rnd *rand.Rand, most money.Amount) money.Amount {
	return money.Amount(rnd.Uint64()>>rnd.Intn(64)) % (most + 1)
}

// mustBeRounded checks that a share is no more than what is due, and lacks less than 1.
func mustBeRounded(t *testing.T, collateral, issued, a, share money.Amount) {
	t.Helper()
	due := new(big.Int).Mul(number(collateral), number(a))
	low := new(big.Int).Mul(number(share), number(issued))
	high := new(big.Int).Mul(number(share+1), number(issued))
	if low.Cmp(due) > 0 || high.Cmp(due) <= 0 {
		t.Errorf("%d for %d: the share of %d: %d", collateral, issued, a, share)
	}
}

// Share changes nothing, of however many it is asked.
func TestShareChangesNothing(t *testing.T) {
	for _, from := range pools() {
		p := from
		for range 2 {
			for _, a := range append(allAmounts(), from.Issued) {
				p.Share(a)
				if p != from {
					t.Fatalf("Share(%d) of %v: %v is left", a, from, p)
				}
			}
		}
	}
}

// P19.2: parts, and the last ones

// inParts burns them one behind the other, and answers what all of them bring.
func (p *pair) inParts(parts ...money.Amount) money.Amount {
	p.t.Helper()
	sum := money.Amount(0)
	for _, a := range parts {
		s, e := p.burn(a)
		if e != api.OK {
			p.t.Fatalf("Burn(%d): %d", a, int(e))
		}
		sum += s
	}
	return sum
}

// mustBringNoMore checks that parts bring no more than all of them at once.
func mustBringNoMore(t *testing.T, collateral, issued money.Amount, parts ...money.Amount) {
	t.Helper()
	all := money.Amount(0)
	for _, a := range parts {
		all += a
	}
	once, apart := with(t, collateral, issued), with(t, collateral, issued)
	most := once.inParts(all)
	brought := apart.inParts(parts...)
	if brought > most || all == issued && brought != most {
		t.Fatalf("%d for %d: %v bring %d, at once %d", collateral, issued, parts, brought, most)
	}
	if apart.pool.Issued != once.pool.Issued || apart.pool.Collateral < once.pool.Collateral {
		t.Fatalf("%d for %d: %v leave %v, at once %v", collateral, issued, parts, *apart.pool, *once.pool)
	}
}

// rows tells all rows of parts that are together some number.
func rows(all money.Amount, tell func(l []money.Amount), ahead ...money.Amount) {
	if all == 0 {
		tell(ahead)
	}
	for a := money.Amount(1); a <= all; a++ {
		rows(all-a, tell, append(ahead[:len(ahead):len(ahead)], a)...)
	}
}

// All small pools, and all ways to burn in parts, whichever comes first.
func TestPartsOfSmallPools(t *testing.T) {
	for collateral := range money.Amount(12) {
		for issued := money.Amount(1); issued <= 6; issued++ {
			for all := money.Amount(1); all <= issued; all++ {
				rows(all, func(l []money.Amount) { mustBringNoMore(t, collateral, issued, l...) })
			}
		}
	}
}

func TestPartsOfGreatPools(t *testing.T) {
	for seed := range int64(3) {
		rnd := rand.New(rand.NewSource(10 + seed))
		for range 400 {
			collateral, issued := upTo(rnd, top), 3+upTo(rnd, top-3)
			a := 1 + upTo(rnd, issued-2)
			b := 1 + upTo(rnd, issued-a-1)
			mustBringNoMore(t, collateral, issued, a, b)
			mustBringNoMore(t, collateral, issued, b, a)
			mustBringNoMore(t, collateral, issued, a, issued-a)
			mustBringNoMore(t, collateral, issued, many(rnd, issued)...)
		}
	}
}

// many are up to 10 parts of a number, of which the last one is all that the others leave.
func many(rnd *rand.Rand, all money.Amount) []money.Amount {
	var l []money.Amount
	for all > 0 && len(l) < 9 {
		a := 1 + upTo(rnd, all-1)
		l, all = append(l, a), all-a
	}
	if all > 0 {
		l = append(l, all)
	}
	return l
}

// One by one: no one gets less than the share that he would have got first, rounded down.
func TestOneByOne(t *testing.T) {
	for _, from := range []Pool{{10, 4}, {0, 9}, {1, 9}, {8, 9}, {9, 9}, {100, 9}, {1000, 37}, {top, 41}, {top - 1, 43}, {36, 37}} {
		p := with(t, from.Collateral, from.Issued)
		least, _ := p.pool.Share(1)
		sum := money.Amount(0)
		for range from.Issued {
			s, e := p.burn(1)
			if e != api.OK || s < least {
				t.Errorf("%v: %d, %d, behind %d", from, s, int(e), least)
			}
			sum, least = sum+s, s
		}
		if sum != from.Collateral {
			t.Errorf("%v: all brought %d", from, sum)
		}
		p.mustBe(0, 0)
		p.mustBurn(1, 0, api.ErrFew)
	}
}

// Whoever is the last gets all, however many were burned ahead.
func TestTheLastGetsAll(t *testing.T) {
	for _, from := range pools() {
		if from.Issued == 0 {
			continue
		}
		for _, ahead := range []money.Amount{0, 1, 2, from.Issued / 2, from.Issued - 1} {
			p := with(t, from.Collateral, from.Issued)
			if ahead > 0 && ahead < from.Issued {
				p.inParts(ahead)
			}
			left := *p.pool
			p.mustBurn(left.Issued, left.Collateral, api.OK)
			p.mustBe(0, 0)
			p.mustBurn(1, 0, api.ErrFew)
		}
	}
}

// Nobody gets of collateral that a pool has for no tokens, until it stands for some again.
func TestCollateralForNothing(t *testing.T) {
	for _, a := range []money.Amount{1, 5, top} {
		p := with(t, a, 0)
		p.mustBurn(1, 0, api.ErrFew)
		p.mustBurn(top, 0, api.ErrFew)
		p.mustBe(a, 0)
		p.mustTake(0, 2, api.OK)
		p.mustBurn(1, a/2, api.OK)
		p.mustBurn(1, a-a/2, api.OK)
		p.mustBe(0, 0)
	}
}

// P19.1: Take behind Burn

func TestTakeBehindBurn(t *testing.T) {
	p := with(t, 10, 4)
	p.mustBurn(1, 2, api.OK)
	p.mustTake(7, 2, api.OK)
	p.mustBe(15, 5)
	p.mustBurn(2, 6, api.OK)
	p.mustTake(0, 6, api.OK) // more tokens, by which each brings less
	p.mustBurn(3, 3, api.OK)
	p.mustBurn(6, 6, api.OK)
	p.mustBe(0, 0)

	p.mustTake(5, 3, api.OK) // behind the last ones
	p.mustBurn(1, 1, api.OK)
	p.mustBurn(2, 4, api.OK)
	p.mustBe(0, 0)
}

// What was burned makes room for as much again, also if more was taken in all than there may be at once.
func TestRoomBehindBurn(t *testing.T) {
	p := with(t, top, top)
	for range 5 {
		p.mustTake(1, 0, api.ErrOver)
		p.mustTake(0, 1, api.ErrOver)
		p.mustBurn(1<<61, 1<<61, api.OK)
		p.mustTake(1<<61+1, 1<<61, api.ErrOver)
		p.mustTake(1<<61, 1<<61+1, api.ErrOver)
		p.mustTake(1<<61, 1<<61, api.OK)
		p.mustBe(top, top)
		p.mustBurn(top, top, api.OK)
		p.mustBe(0, 0)
		p.mustTake(top, top, api.OK)
	}
}

// P19.1: a pool that isn't there

func TestNilPool(t *testing.T) {
	var p *Pool
	for _, a := range allAmounts() {
		for _, b := range allAmounts() {
			if e := p.Take(a, b); e != api.ErrArg {
				t.Errorf("Take(%d, %d): %d", a, b, int(e))
			}
		}
		if s, e := p.Burn(a); s != 0 || e != api.ErrArg {
			t.Errorf("Burn(%d): %d, %d", a, s, int(e))
		}
	}
}

// R1: what has more than there may be is no pool, but answers, and is left as it was by what it refuses.
func TestWhatIsNoPool(t *testing.T) {
	for _, from := range []Pool{{top + 1, 5}, {5, top + 1}, {full, full}, {full, 1}, {1, full}, {1 << 63, 1 << 63}, {full, 0}, {0, full}} {
		for _, a := range allAmounts() {
			p := from
			if e := p.Take(a, a); e == api.OK || p != from {
				t.Errorf("%v: Take(%d, %d): %d, %v", from, a, a, int(e), p)
			}
			s, e := p.Burn(a)
			if e != api.OK && (s != 0 || p != from) || s > from.Collateral {
				t.Errorf("%v: Burn(%d): %d, %d, %v", from, a, s, int(e), p)
			}
		}
	}
}

// P19.1, P19.2: rows

// step tells a pair anything: more of both, or that some go.
func (p *pair) step(rnd *rand.Rand, great bool) {
	p.t.Helper()
	most := money.Amount(20)
	if great {
		most = top
	}
	switch rnd.Intn(12) {
	case 0:
		p.take(wrongAmounts()[rnd.Intn(7)], upTo(rnd, most))
	case 1:
		p.take(upTo(rnd, most), wrongAmounts()[rnd.Intn(7)])
	case 2:
		p.take(upTo(rnd, most), 0)
	case 3:
		p.take(0, upTo(rnd, most))
	case 4, 5:
		p.take(upTo(rnd, most), upTo(rnd, most))
	case 6:
		p.take(top-p.pool.Collateral+money.Amount(rnd.Intn(2)), upTo(rnd, 3))
	case 7:
		p.burn(p.pool.Issued + money.Amount(rnd.Intn(3)))
	case 8:
		p.burn(allAmounts()[rnd.Intn(len(allAmounts()))])
	default:
		p.burn(upTo(rnd, p.pool.Issued))
	}
}

// Behind each step both are what was taken, less what was brought and burned.
func TestLongRows(t *testing.T) {
	for seed := range int64(40) {
		rnd := rand.New(rand.NewSource(seed))
		p := begin(t)
		for range 300 {
			p.step(rnd, seed%2 == 0)
		}
		if p.record.issued.out.Sign() == 0 {
			t.Errorf("seed %d: none were burned", seed)
		}
	}
}

// Of two pools each is told its own row.
func TestLongRowsOfTwo(t *testing.T) {
	for seed := range int64(10) {
		rnd := rand.New(rand.NewSource(100 + seed))
		p, q := with(t, 100, 7), with(t, 100, 7)
		for range 200 {
			one, other := p, q
			if rnd.Intn(2) == 0 {
				one, other = q, p
			}
			one.step(rnd, seed%2 == 0)
			other.mustBeAsRecord("the other one")
		}
	}
}

// All rows of five steps.
func TestAllShortRows(t *testing.T) {
	steps := []func(p *pair){
		func(p *pair) { p.take(10, 4) },
		func(p *pair) { p.take(3, 0) },
		func(p *pair) { p.take(0, 2) },
		func(p *pair) { p.take(top, 1) },
		func(p *pair) { p.take(top+1, 1) },
		func(p *pair) { p.burn(1) },
		func(p *pair) { p.burn(3) },
		func(p *pair) { p.burn(p.pool.Issued) },
	}
	var goOn func(p *pair, left int)
	goOn = func(p *pair, left int) {
		for _, s := range steps {
			same := *p.pool
			q := &pair{t: t, pool: &same, record: p.record}
			if s(q); left > 1 {
				goOn(q, left-1)
			}
		}
	}
	goOn(begin(t), 5)
}
