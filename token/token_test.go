package token

import (
	"fmt"
	"iter"
	"math"
	"math/big"
	"math/rand"
	"slices"
	"testing"

	"pontage/api"
	"pontage/money"
)

const (
	parties = 256
	most    = money.Amount(api.MaxAmount)
	full    = money.Amount(math.MaxUint64)
)

// wrongs are amounts that can't be minted, burnt or moved.
func wrongs() []money.Amount {
	return []money.Amount{0, most + 1, most + 2, 1<<63 - 1, 1 << 63, 1<<63 + 1, full - most, full - 1, full}
}

// rights are amounts that can be, those at the ends among them.
func rights() []money.Amount {
	return []money.Amount{1, 2, 3, api.Mille, api.Coin, math.MaxUint32, 1 << 32, most / 2, most - 1, most}
}

// some are parties, those at the ends among them.
func some() []Who {
	return []Who{0, 1, 2, 127, 128, 254, 255}
}

// row is what is told of one party.
type row struct {
	who    Who
	amount money.Amount
}

// gone answers what an iterator tells.
func gone(l iter.Seq2[Who, money.Amount]) []row {
	var rows []row
	for w, a := range l {
		rows = append(rows, row{w, a})
	}
	return rows
}

// list is what all parties have, by their numbers: a ledger without a map.
type list [parties]money.Amount

// sum answers what all have together, by numbers that don't go round.
func (m *list) sum() *big.Int {
	sum := new(big.Int)
	for _, a := range m {
		sum.Add(sum, bigOf(a))
	}
	return sum
}

// rows answers who has some, rising.
func (m *list) rows() []row {
	var rows []row
	for w, a := range m {
		if a != 0 {
			rows = append(rows, row{Who(w), a})
		}
	}
	return rows
}

func bigOf(a money.Amount) *big.Int {
	return new(big.Int).SetUint64(uint64(a))
}

// isAmount: may an amount be minted, burnt or moved?
func isAmount(a money.Amount) bool {
	return a >= 1 && a <= 1<<62
}

func (m *list) mint(to Who, a money.Amount) api.Errno {
	switch {
	case !isAmount(a):
		return api.ErrArg
	case new(big.Int).Add(m.sum(), bigOf(a)).Cmp(bigOf(most)) > 0:
		return api.ErrOver
	}
	m[to] += a
	return api.OK
}

func (m *list) burn(from Who, a money.Amount) api.Errno {
	switch {
	case !isAmount(a):
		return api.ErrArg
	case m[from] < a:
		return api.ErrFew
	}
	m[from] -= a
	return api.OK
}

func (m *list) move(from, to Who, a money.Amount) api.Errno {
	switch {
	case !isAmount(a):
		return api.ErrArg
	case m[from] < a:
		return api.ErrFew
	case from != to:
		m[from], m[to] = m[from]-a, m[to]+a
	}
	return api.OK
}

// pair is a ledger, and a list that is told the same.
type pair struct {
	t      testing.TB
	ledger *Ledger
	list   list
}

// begin is a pair in which nobody has any.
func begin(t testing.TB) *pair {
	t.Helper()
	p := &pair{t: t, ledger: New()}
	p.mustBeAsList("New")
	return p
}

// apart is a pair of a copy of the ledger, and one of the list.
func (p *pair) apart() *pair {
	p.t.Helper()
	q := &pair{t: p.t, ledger: p.ledger.Copy(), list: p.list}
	if q.ledger == nil || q.ledger == p.ledger {
		p.t.Fatal("Copy: none, or the same one")
	}
	q.mustBeAsList("Copy")
	p.mustBeAsList("what was copied")
	return q
}

// mustBeAsList checks all that a ledger tells.
func (p *pair) mustBeAsList(what string) {
	p.t.Helper()
	sum := new(big.Int)
	for w := range parties {
		of := p.ledger.Of(Who(w))
		if of != p.list[w] {
			p.t.Fatalf("%s: Of(%d): %d, want %d", what, w, of, p.list[w])
		}
		sum.Add(sum, bigOf(of))
	}
	if total := p.ledger.Total(); bigOf(total).Cmp(sum) != 0 || !total.Right() {
		p.t.Fatalf("%s: Total: %d, want %d", what, total, sum)
	}
	if rows, want := gone(p.ledger.All()), p.list.rows(); !slices.Equal(rows, want) {
		p.t.Fatalf("%s: All: %v, want %v", what, rows, want)
	}
}

// mustAnswer checks an answer against the list's, and that the ledger tells what the list does.
func (p *pair) mustAnswer(what string, e, want api.Errno) api.Errno {
	p.t.Helper()
	if e != want {
		p.t.Fatalf("%s: %d, want %d", what, int(e), int(want))
	}
	p.mustBeAsList(what)
	return e
}

func (p *pair) mint(to Who, a money.Amount) api.Errno {
	p.t.Helper()
	return p.mustAnswer(fmt.Sprintf("Mint(%d, %d)", to, a), p.ledger.Mint(to, a), p.list.mint(to, a))
}

func (p *pair) burn(from Who, a money.Amount) api.Errno {
	p.t.Helper()
	return p.mustAnswer(fmt.Sprintf("Burn(%d, %d)", from, a), p.ledger.Burn(from, a), p.list.burn(from, a))
}

// move checks also that the total is left.
func (p *pair) move(from, to Who, a money.Amount) api.Errno {
	p.t.Helper()
	what := fmt.Sprintf("Move(%d, %d, %d)", from, to, a)
	was := p.ledger.Total()
	e := p.mustAnswer(what, p.ledger.Move(from, to, a), p.list.move(from, to, a))
	if total := p.ledger.Total(); total != was {
		p.t.Fatalf("%s: Total: %d, it was %d", what, total, was)
	}
	return e
}

// must checks an error by hand.
func must(t testing.TB, what string, e, want api.Errno) {
	t.Helper()
	if e != want {
		t.Errorf("%s: %d, want %d", what, int(e), int(want))
	}
}

// mustTell checks what a ledger tells, by hand: its total, and who has some.
func (p *pair) mustTell(what string, total money.Amount, rows ...row) {
	p.t.Helper()
	if got := p.ledger.Total(); got != total {
		p.t.Errorf("%s: Total: %d, want %d", what, got, total)
	}
	if got := gone(p.ledger.All()); !slices.Equal(got, rows) {
		p.t.Errorf("%s: All: %v, want %v", what, got, rows)
	}
	for _, r := range rows {
		if of := p.ledger.Of(r.who); of != r.amount {
			p.t.Errorf("%s: Of(%d): %d, want %d", what, r.who, of, r.amount)
		}
	}
}

// with is a pair in which these parties have so much.
func with(t testing.TB, rows ...row) *pair {
	t.Helper()
	p := begin(t)
	for _, r := range rows {
		must(t, "Mint", p.mint(r.who, r.amount), api.OK)
	}
	return p
}

// P15.1: the chapter's example, and New

func TestExample(t *testing.T) {
	l := New()
	must(t, "Mint", l.Mint(1, 5), api.OK)
	must(t, "Move", l.Move(1, 2, 3), api.OK)
	if l.Of(1) != 2 || l.Of(2) != 3 || l.Total() != 5 {
		t.Errorf("1 has %d, 2 has %d, of %d", l.Of(1), l.Of(2), l.Total())
	}
	if rows := gone(l.All()); !slices.Equal(rows, []row{{1, 2}, {2, 3}}) {
		t.Errorf("All: %v", rows)
	}
}

func TestNewHasNobody(t *testing.T) {
	l := New()
	if l == nil {
		t.Fatal("New: none")
	}
	for w := range parties {
		if a := l.Of(Who(w)); a != 0 {
			t.Errorf("Of(%d): %d", w, a)
		}
	}
	if total := l.Total(); total != 0 {
		t.Errorf("Total: %d", total)
	}
	for w, a := range l.All() {
		t.Errorf("All: %d, %d", w, a)
	}
}

func TestNewOnesAreApart(t *testing.T) {
	p, q := begin(t), begin(t)
	p.mint(1, 5)
	q.mustTell("the other one", 0)
	q.mint(2, 3)
	p.mustTell("the one", 5, row{1, 5})
	q.mustTell("the other one", 3, row{2, 3})
}

// P15.1: Mint

func TestMintOfRightAmounts(t *testing.T) {
	for _, a := range rights() {
		for _, w := range some() {
			p := begin(t)
			must(t, "Mint", p.mint(w, a), api.OK)
			p.mustTell("Mint", a, row{w, a})
		}
	}
}

func TestMintOfWrongAmounts(t *testing.T) {
	for _, a := range wrongs() {
		for _, w := range some() {
			p := begin(t)
			must(t, "of a new one", p.mint(w, a), api.ErrArg)
			p.mustTell("of a new one", 0)
			p.mint(w, 7)
			must(t, "of one that has some", p.mint(w, a), api.ErrArg)
			must(t, "of another one", p.mint(w+1, a), api.ErrArg)
			p.mustTell("of one that has some", 7, row{w, 7})
		}
	}
}

func TestMintMore(t *testing.T) {
	p := with(t, row{3, 5})
	must(t, "Mint", p.mint(3, 1), api.OK)
	must(t, "Mint", p.mint(3, 10), api.OK)
	must(t, "Mint", p.mint(4, 2), api.OK)
	p.mustTell("Mint", 18, row{3, 16}, row{4, 2})
}

func TestMintByOnePartyUpToMaxAmount(t *testing.T) {
	for _, first := range []money.Amount{1, 2, most / 2, most - 2, most - 1} {
		p := with(t, row{9, first})
		must(t, "one above", p.mint(9, most-first+1), api.ErrOver)
		p.mustTell("one above", first, row{9, first})
		must(t, "up to it", p.mint(9, most-first), api.OK)
		p.mustTell("up to it", most, row{9, most})
		for _, a := range rights() {
			must(t, "of all there may be", p.mint(9, a), api.ErrOver)
			must(t, "of all there may be", p.mint(10, a), api.ErrOver)
		}
		p.mustTell("of all there may be", most, row{9, most})
	}
}

func TestMintBySeveralPartiesUpToMaxAmount(t *testing.T) {
	p := with(t, row{0, most / 4}, row{255, most / 2}, row{128, most/4 - 2})
	for _, w := range []Who{0, 1, 128, 255} {
		must(t, "one above", p.mint(w, 3), api.ErrOver)
		must(t, "by far", p.mint(w, most), api.ErrOver)
	}
	must(t, "up to one below", p.mint(1, 1), api.OK)
	must(t, "one above", p.mint(2, 2), api.ErrOver)
	must(t, "up to it", p.mint(2, 1), api.OK)
	for w := range parties {
		must(t, "one above", p.mint(Who(w), 1), api.ErrOver)
	}
	p.mustTell("up to it", most, row{0, most / 4}, row{1, 1}, row{2, 1}, row{128, most/4 - 2}, row{255, most / 2})
}

func TestMintByAllPartiesUpToMaxAmount(t *testing.T) {
	p := begin(t)
	for w := range parties {
		must(t, "an even share", p.mint(Who(w), most/parties), api.OK)
	}
	for w := range parties {
		must(t, "one above", p.mint(Who(w), 1), api.ErrOver)
	}
	if total := p.ledger.Total(); total != most {
		t.Errorf("Total: %d", total)
	}
}

func TestMintOfAWrongAmountWhereThereIsNoRoom(t *testing.T) {
	p := with(t, row{1, most})
	for _, a := range wrongs() {
		must(t, "Mint", p.mint(1, a), api.ErrArg)
		must(t, "Mint", p.mint(2, a), api.ErrArg)
	}
	p.mustTell("Mint", most, row{1, most})
}

func TestMintHasRoomAgainBehindBurn(t *testing.T) {
	p := with(t, row{1, most - 1}, row{2, 1})
	must(t, "no room", p.mint(3, 1), api.ErrOver)
	must(t, "Burn", p.burn(1, 5), api.OK)
	must(t, "one above", p.mint(3, 6), api.ErrOver)
	must(t, "up to it", p.mint(3, 5), api.OK)
	must(t, "no room", p.mint(1, 1), api.ErrOver)
	p.mustTell("up to it", most, row{1, most - 6}, row{2, 1}, row{3, 5})
}

// P15.1: Burn

func TestBurnOfAllAndNear(t *testing.T) {
	for _, has := range []money.Amount{2, 3, api.Coin, most / 2, most - 1} {
		for _, w := range some() {
			p := with(t, row{w, has}, row{w ^ 1, 1})
			must(t, "one more", p.burn(w, has+1), api.ErrFew)
			must(t, "by far", p.burn(w, most), api.ErrFew)
			must(t, "one less", p.apart().burn(w, has-1), api.OK)
			must(t, "all", p.burn(w, has), api.OK)
			p.mustTell("all", 1, row{w ^ 1, 1})
			must(t, "one of none", p.burn(w, 1), api.ErrFew)
			p.mustTell("one of none", 1, row{w ^ 1, 1})
		}
	}
}

func TestBurnByHand(t *testing.T) {
	p := with(t, row{7, 5}, row{8, 2})
	must(t, "Burn", p.burn(7, 4), api.OK)
	p.mustTell("Burn", 3, row{7, 1}, row{8, 2})
	must(t, "Burn", p.burn(7, 2), api.ErrFew)
	p.mustTell("Burn", 3, row{7, 1}, row{8, 2})
	must(t, "Burn", p.burn(7, 1), api.OK)
	p.mustTell("Burn", 2, row{8, 2})
	must(t, "Burn", p.burn(8, 2), api.OK)
	p.mustTell("Burn", 0)
}

func TestBurnOfMaxAmount(t *testing.T) {
	p := with(t, row{5, most})
	must(t, "one less", p.apart().burn(5, most-1), api.OK)
	must(t, "one of it", p.apart().burn(5, 1), api.OK)
	must(t, "all", p.burn(5, most), api.OK)
	p.mustTell("all", 0)
	must(t, "again", p.burn(5, most), api.ErrFew)
}

func TestBurnOfNone(t *testing.T) {
	p, q := begin(t), with(t, row{1, most})
	for _, a := range rights() {
		for _, w := range some() {
			must(t, "of a new one", p.burn(w, a), api.ErrFew)
			if w != 1 {
				must(t, "while another one has some", q.burn(w, a), api.ErrFew)
			}
		}
	}
	p.mustTell("of a new one", 0)
	q.mustTell("while another one has some", most, row{1, most})
}

func TestBurnOfWrongAmounts(t *testing.T) {
	p, q := begin(t), with(t, row{1, most - 7}, row{2, 7})
	for _, a := range wrongs() {
		must(t, "of none", p.burn(1, a), api.ErrArg)
		must(t, "of none", q.burn(3, a), api.ErrArg)
		must(t, "of some", q.burn(1, a), api.ErrArg)
		must(t, "of a few", q.burn(2, a), api.ErrArg)
	}
	p.mustTell("of none", 0)
	q.mustTell("of some", most, row{1, most - 7}, row{2, 7})
}

// P15.1: Move

func TestMoveOfAllAndNear(t *testing.T) {
	for _, has := range []money.Amount{2, 3, api.Coin, most / 2, most - 4} {
		p := with(t, row{7, has}, row{8, 4})
		must(t, "one more to one that has none", p.move(7, 9, has+1), api.ErrFew)
		must(t, "one more to one that has some", p.move(7, 8, has+1), api.ErrFew)
		must(t, "by far", p.move(7, 8, most), api.ErrFew)

		q := p.apart()
		must(t, "one less to one that has none", q.move(7, 9, has-1), api.OK)
		q.mustTell("one less to one that has none", has+4, row{7, 1}, row{8, 4}, row{9, has - 1})
		q = p.apart()
		must(t, "one less to one that has some", q.move(7, 8, has-1), api.OK)
		q.mustTell("one less to one that has some", has+4, row{7, 1}, row{8, has + 3})
		q = p.apart()
		must(t, "all to one that has none", q.move(7, 9, has), api.OK)
		q.mustTell("all to one that has none", has+4, row{8, 4}, row{9, has})
		q = p.apart()
		must(t, "all to one that has some", q.move(7, 8, has), api.OK)
		q.mustTell("all to one that has some", has+4, row{8, has + 4})
		must(t, "one of none", q.move(7, 8, 1), api.ErrFew)
		p.mustTell("what was copied", has+4, row{7, has}, row{8, 4})
	}
}

func TestMoveOfMaxAmount(t *testing.T) {
	p := with(t, row{255, most})
	must(t, "all", p.move(255, 0, most), api.OK)
	p.mustTell("all", most, row{0, most})
	must(t, "one less", p.move(0, 1, most-1), api.OK)
	p.mustTell("one less", most, row{0, 1}, row{1, most - 1})
	must(t, "all there is", p.move(1, 0, most), api.ErrFew)
	must(t, "the rest", p.move(1, 0, most-1), api.OK)
	p.mustTell("the rest", most, row{0, most})
	must(t, "all to itself", p.move(0, 0, most), api.OK)
	p.mustTell("all to itself", most, row{0, most})
}

func TestMoveFromNone(t *testing.T) {
	p, q := begin(t), with(t, row{1, most})
	for _, a := range rights() {
		for _, w := range []Who{0, 2, 254, 255} {
			must(t, "of a new one", p.move(w, w+1, a), api.ErrFew)
			must(t, "of a new one, to itself", p.move(w, w, a), api.ErrFew)
			must(t, "to one that has some", q.move(w, 1, a), api.ErrFew)
			must(t, "to one that has none", q.move(w, w+3, a), api.ErrFew)
			must(t, "to itself", q.move(w, w, a), api.ErrFew)
		}
	}
	p.mustTell("of a new one", 0)
	q.mustTell("while another one has some", most, row{1, most})
}

func TestMoveToItself(t *testing.T) {
	for _, w := range some() {
		p := with(t, row{w, 10}, row{w ^ 1, 3})
		for a := money.Amount(1); a <= 10; a++ {
			must(t, "of what it has", p.move(w, w, a), api.OK)
		}
		for _, a := range []money.Amount{11, 12, 13, 14, most - 1, most} {
			must(t, "of more", p.move(w, w, a), api.ErrFew)
		}
		for _, a := range wrongs() {
			must(t, "of an amount that can't be", p.move(w, w, a), api.ErrArg)
		}
		if p.ledger.Of(w) != 10 || p.ledger.Of(w^1) != 3 || p.ledger.Total() != 13 {
			t.Errorf("%d has %d, another one %d, of %d", w, p.ledger.Of(w), p.ledger.Of(w^1), p.ledger.Total())
		}
	}
}

func TestMoveOfWrongAmounts(t *testing.T) {
	p, q := begin(t), with(t, row{1, most - 7}, row{2, 7})
	for _, a := range wrongs() {
		must(t, "of none", p.move(1, 2, a), api.ErrArg)
		must(t, "of none, to itself", p.move(1, 1, a), api.ErrArg)
		must(t, "of none to some", q.move(3, 1, a), api.ErrArg)
		must(t, "of some to none", q.move(1, 3, a), api.ErrArg)
		must(t, "of some to some", q.move(1, 2, a), api.ErrArg)
		must(t, "of a few to some", q.move(2, 1, a), api.ErrArg)
		must(t, "to itself", q.move(1, 1, a), api.ErrArg)
	}
	p.mustTell("of none", 0)
	q.mustTell("of some", most, row{1, most - 7}, row{2, 7})
}

// Where all tokens that there may be are there, moves are as ever.
func TestMoveWhereThereIsNoRoom(t *testing.T) {
	p := with(t, row{1, most - 10}, row{2, 10})
	must(t, "to one that has none", p.move(2, 3, 4), api.OK)
	must(t, "to one that has some", p.move(2, 1, 1), api.OK)
	must(t, "by far", p.move(1, 2, most-11), api.OK)
	must(t, "to itself", p.move(2, 2, most-6), api.OK)
	must(t, "of one more", p.move(2, 1, most-5), api.ErrFew)
	must(t, "of all", p.move(2, 1, most-6), api.OK)
	p.mustTell("no room", most, row{1, most - 4}, row{3, 4})
}

// Who gives all away, and gets it again, stands where it stood.
func TestMoveThereAndBack(t *testing.T) {
	for _, from := range some() {
		for _, to := range some() {
			p := with(t, row{from, 6})
			must(t, "there", p.move(from, to, 6), api.OK)
			p.mustTell("there", 6, row{to, 6})
			must(t, "back", p.move(to, from, 6), api.OK)
			p.mustTell("back", 6, row{from, 6})
		}
	}
}

// P15.1: Of

func TestOfEachParty(t *testing.T) {
	for w := range parties {
		p := with(t, row{Who(w), 77})
		for o := range parties {
			if a := p.ledger.Of(Who(o)); (a == 77) != (o == w) || (a == 0) != (o != w) {
				t.Errorf("%d has 77: Of(%d): %d", w, o, a)
			}
		}
		must(t, "Burn", p.burn(Who(w), 77), api.OK)
		if a := p.ledger.Of(Who(w)); a != 0 {
			t.Errorf("Of(%d): %d", w, a)
		}
	}
}

func TestOfAllPartiesAtOnce(t *testing.T) {
	p := begin(t)
	for w := range parties {
		p.mint(Who(w), money.Amount(1000+w))
	}
	for w := range parties {
		if a := p.ledger.Of(Who(w)); a != money.Amount(1000+w) {
			t.Errorf("Of(%d): %d", w, a)
		}
	}
}

// P15.1: All

func TestAllOfOne(t *testing.T) {
	for w := range parties {
		p := with(t, row{Who(w), most - money.Amount(w)})
		p.mustTell("one", most-money.Amount(w), row{Who(w), most - money.Amount(w)})
	}
}

func TestAllOfBothEnds(t *testing.T) {
	with(t, row{255, 2}, row{0, 1}).mustTell("255 ahead of 0", 3, row{0, 1}, row{255, 2})
	with(t, row{0, 1}, row{255, 2}).mustTell("0 ahead of 255", 3, row{0, 1}, row{255, 2})
}

// crowd is a pair in which all 256 parties have some, that came in no order.
func crowd(t testing.TB, seed int64) *pair {
	t.Helper()
	p := begin(t)
	for _, w := range rand.New(rand.NewSource(seed)).Perm(parties) {
		must(t, "Mint", p.mint(Who(w), money.Amount(3*w+1)), api.OK)
	}
	return p
}

func TestAllOfAllParties(t *testing.T) {
	for seed := range int64(5) {
		rows := gone(crowd(t, seed).ledger.All())
		if len(rows) != parties {
			t.Fatalf("%d of them", len(rows))
		}
		for i, r := range rows {
			if r != (row{Who(i), money.Amount(3*i + 1)}) {
				t.Errorf("the %d-th: %v", i, r)
			}
		}
	}
}

func TestAllTellsWhoHasSomeAgain(t *testing.T) {
	p := with(t, row{4, 9}, row{2, 1}, row{6, 3})
	must(t, "Burn", p.burn(4, 9), api.OK)
	p.mustTell("burnt", 4, row{2, 1}, row{6, 3})
	must(t, "Mint", p.mint(4, 2), api.OK)
	p.mustTell("minted again", 6, row{2, 1}, row{4, 2}, row{6, 3})
	must(t, "Move", p.move(4, 6, 2), api.OK)
	p.mustTell("moved away", 6, row{2, 1}, row{6, 5})
	must(t, "Move", p.move(6, 4, 5), api.OK)
	p.mustTell("moved back", 6, row{2, 1}, row{4, 5})
	must(t, "Burn", p.burn(2, 1), api.OK)
	must(t, "Burn", p.burn(4, 5), api.OK)
	p.mustTell("all burnt", 0)
	must(t, "Mint", p.mint(2, 8), api.OK)
	p.mustTell("minted again", 8, row{2, 8})
}

func TestAllGoneThroughTwice(t *testing.T) {
	for _, p := range []*pair{begin(t), with(t, row{3, 4}), crowd(t, 7)} {
		all := p.ledger.All()
		for range 3 {
			if rows := gone(all); !slices.Equal(rows, p.list.rows()) {
				t.Errorf("All: %v, want %v", rows, p.list.rows())
			}
		}
		if rows := gone(p.ledger.All()); !slices.Equal(rows, gone(all)) {
			t.Errorf("another All: %v", rows)
		}
	}
}

func TestAllLeftEarly(t *testing.T) {
	p := crowd(t, 9)
	all, want := p.ledger.All(), p.list.rows()
	for n := 1; n <= parties; n++ {
		var rows []row
		for w, a := range all {
			if rows = append(rows, row{w, a}); len(rows) == n {
				break
			}
		}
		if !slices.Equal(rows, want[:n]) {
			t.Fatalf("of %d: %v", n, rows)
		}
	}
	if rows := gone(all); !slices.Equal(rows, want) {
		t.Errorf("behind that: %v", rows)
	}
	p.mustBeAsList("left early")
}

// An iterator that is left doesn't tell any more.
func TestAllStopsAtOnce(t *testing.T) {
	calls := 0
	crowd(t, 3).ledger.All()(func(Who, money.Amount) bool {
		calls++
		return calls < 5
	})
	if calls != 5 {
		t.Errorf("%d calls", calls)
	}
}

func TestAllInAll(t *testing.T) {
	p := with(t, row{1, 10}, row{5, 20}, row{3, 30})
	all, want := p.ledger.All(), p.list.rows()
	n := 0
	for w, a := range all {
		if want[n] != (row{w, a}) || !slices.Equal(gone(all), want) {
			t.Errorf("the %d-th: %d, %d", n, w, a)
		}
		n++
	}
	if n != len(want) {
		t.Errorf("%d of them", n)
	}
}

// What All answered is no part of the ledger: it tells what was, and the ledger may be told more meanwhile.
func TestAllIsAsItWas(t *testing.T) {
	p := crowd(t, 11)
	all, want := p.ledger.All(), p.list.rows()
	n := 0
	for w, a := range all {
		if want[n] != (row{w, a}) {
			t.Fatalf("the %d-th: %d, %d", n, w, a)
		}
		n++
		must(t, "Mint", p.mint(w+1, 1), api.OK)
		must(t, "Burn", p.burn(w, a), api.OK)
	}
	if n != parties {
		t.Errorf("%d of them", n)
	}
	for w := range parties {
		p.burn(Who(w), p.ledger.Of(Who(w)))
	}
	p.mustTell("all burnt", 0)
	if rows := gone(all); !slices.Equal(rows, want) {
		t.Errorf("behind that: %v", rows)
	}
}

// P15.1: Copy

func TestCopyOfAnEmptyLedger(t *testing.T) {
	p := begin(t)
	q := p.apart()
	q.mint(1, 5)
	p.mustTell("what was copied", 0)
	p.mint(2, 3)
	q.mustTell("the copy", 5, row{1, 5})
	p.mustTell("what was copied", 3, row{2, 3})

	r := begin(t)
	s := r.apart()
	r.mint(9, most)
	s.mustTell("the copy", 0)
	must(t, "the copy", s.mint(1, most), api.OK)
	r.mustTell("what was copied", most, row{9, most})
}

func TestCopyOfALedgerThatIsEmptyAgain(t *testing.T) {
	p := with(t, row{1, 5})
	p.burn(1, 5)
	q := p.apart()
	p.mint(1, 2)
	q.mustTell("the copy", 0)
	q.mint(2, 9)
	p.mustTell("what was copied", 2, row{1, 2})
	q.mustTell("the copy", 9, row{2, 9})
}

func TestCopyOfAFullLedger(t *testing.T) {
	p := begin(t)
	for w := range parties {
		p.mint(Who(w), most/parties)
	}
	q := p.apart()
	rnd := rand.New(rand.NewSource(4))
	for range 300 {
		told, other := p, q
		if rnd.Intn(2) == 0 {
			told, other = q, p
		}
		step(told, rnd)
		other.mustBeAsList("the other one")
	}
	must(t, "no room", q.apart().mint(0, most), api.ErrOver)
}

func TestCopyOfACopy(t *testing.T) {
	p := with(t, row{1, 5})
	q := p.apart()
	q.mint(1, 1)
	r := q.apart()
	r.move(1, 2, 2)
	q.burn(1, 6)
	p.mustTell("the first one", 5, row{1, 5})
	q.mustTell("the second one", 0)
	r.mustTell("the third one", 6, row{1, 4}, row{2, 2})
}

// P15.1: a ledger that isn't there

func TestNilLedger(t *testing.T) {
	var l *Ledger
	for _, a := range append(rights(), wrongs()...) {
		for _, w := range some() {
			must(t, "Mint", l.Mint(w, a), api.ErrArg)
			must(t, "Burn", l.Burn(w, a), api.ErrArg)
			must(t, "Move", l.Move(w, w+1, a), api.ErrArg)
			must(t, "Move to itself", l.Move(w, w, a), api.ErrArg)
		}
	}
	for w := range parties {
		if a := l.Of(Who(w)); a != 0 {
			t.Errorf("Of(%d): %d", w, a)
		}
	}
	if total := l.Total(); total != 0 {
		t.Errorf("Total: %d", total)
	}
	all := l.All()
	for range 2 {
		if rows := gone(all); len(rows) != 0 {
			t.Errorf("All: %v", rows)
		}
	}
	if c := l.Copy(); c != nil {
		t.Errorf("Copy: %v", c)
	}
}

// P15.2

// step tells both of a pair the same: something of any kind, by parties of which some have none, and amounts near what is there.
func step(p *pair, rnd *rand.Rand) {
	p.t.Helper()
	one, other := Who(rnd.Intn(parties)), Who(rnd.Intn(parties))
	if rows := p.list.rows(); len(rows) > 0 && rnd.Intn(4) > 0 {
		one = rows[rnd.Intn(len(rows))].who
	}
	if rnd.Intn(8) == 0 {
		other = one
	}
	switch a := near(p, one, rnd); rnd.Intn(3) {
	case 0:
		p.mint(one, a)
	case 1:
		p.burn(one, a)
	default:
		p.move(one, other, a)
	}
}

// near answers an amount that is right or wrong, or near what a party has, or near what there is room for.
func near(p *pair, w Who, rnd *rand.Rand) money.Amount {
	shift := money.Amount(rnd.Intn(3)) - 1 // one less goes round where there is none
	switch rnd.Intn(8) {
	case 0:
		return wrongs()[rnd.Intn(len(wrongs()))]
	case 1:
		return rights()[rnd.Intn(len(rights()))]
	case 2:
		return p.list[w] + shift
	case 3:
		return most - money.Amount(p.list.sum().Uint64()) + shift
	case 4:
		return money.Amount(1 + rnd.Intn(20))
	default:
		return money.Amount(rnd.Uint64() >> (2 + rnd.Intn(62)))
	}
}

func TestTotalIsTheSumBehindLongRows(t *testing.T) {
	for seed := range int64(20) {
		rnd := rand.New(rand.NewSource(100 + seed))
		p := begin(t)
		for range 1000 {
			step(p, rnd)
		}
	}
}

// All rows of so many steps by few parties, with amounts at the ends.
func TestTotalIsTheSumBehindAllShortRows(t *testing.T) {
	var steps []func(*pair) api.Errno
	for _, a := range []money.Amount{0, 1, most - 1, most, most + 1} {
		for _, w := range []Who{0, 255} {
			steps = append(steps,
				func(p *pair) api.Errno { return p.mint(w, a) },
				func(p *pair) api.Errno { return p.burn(w, a) },
				func(p *pair) api.Errno { return p.move(w, 255-w, a) },
				func(p *pair) api.Errno { return p.move(w, w, a) })
		}
	}
	var goOn func(p *pair, left int)
	goOn = func(p *pair, left int) {
		for _, do := range steps {
			q := &pair{t: t, ledger: p.ledger.Copy(), list: p.list}
			if do(q); left > 1 {
				goOn(q, left-1)
			}
		}
	}
	goOn(begin(t), 2)
	for _, p := range []*pair{with(t, row{0, 1}), with(t, row{0, most}), with(t, row{0, most - 1}, row{255, 1}), with(t, row{0, 1}, row{255, 1})} {
		goOn(p, 2)
	}
}

// What is refused leaves everything, and what comes behind it is answered as if it hadn't been.
func TestWhatIsRefusedChangesNothing(t *testing.T) {
	p := with(t, row{1, most - 30}, row{2, 20}, row{3, 10})
	for _, a := range wrongs() {
		p.mint(2, a)
		p.burn(2, a)
		p.move(2, 4, a)
	}
	for range 3 {
		must(t, "Mint", p.mint(2, 1), api.ErrOver)
		must(t, "Mint of none", p.mint(4, most), api.ErrOver)
		must(t, "Burn", p.burn(2, 21), api.ErrFew)
		must(t, "Burn of none", p.burn(4, 1), api.ErrFew)
		must(t, "Move", p.move(2, 3, 21), api.ErrFew)
		must(t, "Move to none", p.move(3, 4, 11), api.ErrFew)
		must(t, "Move of none", p.move(4, 3, 1), api.ErrFew)
		must(t, "Move to itself", p.move(3, 3, 11), api.ErrFew)
		must(t, "Move of none to itself", p.move(4, 4, 1), api.ErrFew)
	}
	p.mustTell("refused", most, row{1, most - 30}, row{2, 20}, row{3, 10})
	must(t, "Burn", p.burn(1, 1), api.OK)
	must(t, "Mint", p.mint(4, 1), api.OK)
	p.mustTell("behind that", most, row{1, most - 31}, row{2, 20}, row{3, 10}, row{4, 1})
}

// What a ledger answers hangs on what it was told alone: not on other ledgers, nor on in which order the parties came.
func TestTheOrderOfPartiesIsNotSeen(t *testing.T) {
	want := crowd(t, 0)
	for seed := int64(1); seed < 6; seed++ {
		p := crowd(t, seed)
		if !slices.Equal(gone(p.ledger.All()), gone(want.ledger.All())) || p.ledger.Total() != want.ledger.Total() {
			t.Errorf("All: %v", gone(p.ledger.All()))
		}
	}
}

// A ledger that New didn't make is an empty one.
func TestLedgerWithoutNew(t *testing.T) {
	p := &pair{t: t, ledger: &Ledger{}}
	p.mustBeAsList("without New")
	q := p.apart()
	must(t, "Burn", p.burn(1, 1), api.ErrFew)
	must(t, "Move", p.move(1, 2, 1), api.ErrFew)
	must(t, "Mint", p.mint(1, 5), api.OK)
	must(t, "Move", q.move(1, 1, 1), api.ErrFew)
	must(t, "Mint", q.mint(2, 6), api.OK)
	p.mustTell("without New", 5, row{1, 5})
}
