package purse

import (
	"fmt"
	"iter"
	"math"
	"math/big"
	"math/rand"
	"slices"
	"testing"

	"pontage/api"
	"pontage/money"
	"pontage/token"
)

const (
	parties = 256
	most    = money.Amount(1 << 62)
	full    = money.Amount(math.MaxUint64)
)

// wrongs are amounts that no call takes.
func wrongs() []money.Amount {
	return []money.Amount{most + 1, most + 2, 1<<63 - 1, 1 << 63, 1<<63 + 1, full - most, full - most + 1, full - 1, full}
}

// rights are amounts that change something, those at the ends among them.
func rights() []money.Amount {
	return []money.Amount{1, 2, 3, api.Mille, api.Coin, math.MaxUint32, 1 << 32, most / 2, most - 1, most}
}

// some are parties, those at the ends among them.
func some() []token.Who {
	return []token.Who{0, 1, 2, 127, 128, 254, 255}
}

// row is what is told of one party.
type row struct {
	who    token.Who
	amount money.Amount
}

// gone answers what an iterator tells.
func gone(l iter.Seq2[token.Who, money.Amount]) []row {
	var rows []row
	for w, a := range l {
		rows = append(rows, row{w, a})
	}
	return rows
}

// list is what is free of all parties, by their numbers, and what is held and paid: a purse without a ledger, that notes each of them.
type list struct {
	free          [parties]money.Amount
	held, in, out money.Amount
}

// sum answers all that is free, by numbers that don't go round.
func (m *list) sum() *big.Int {
	sum := new(big.Int)
	for _, a := range m.free {
		sum.Add(sum, bigOf(a))
	}
	return sum
}

// rows answers whose is free, rising.
func (m *list) rows() []row {
	var rows []row
	for w, a := range m.free {
		if a != 0 {
			rows = append(rows, row{token.Who(w), a})
		}
	}
	return rows
}

func bigOf(a money.Amount) *big.Int {
	return new(big.Int).SetUint64(uint64(a))
}

// tooMuch: are these together above what an amount may be?
func tooMuch(sum *big.Int, l ...money.Amount) bool {
	sum = new(big.Int).Set(sum)
	for _, a := range l {
		sum.Add(sum, bigOf(a))
	}
	return sum.Cmp(bigOf(most)) > 0
}

func (m *list) payIn(w token.Who, a money.Amount) api.Errno {
	switch {
	case a > most:
		return api.ErrArg
	case tooMuch(m.sum(), m.held, a), tooMuch(bigOf(m.in), a):
		return api.ErrOver
	}
	m.free[w] += a
	m.in += a
	return api.OK
}

func (m *list) takeOut(w token.Who, a money.Amount) api.Errno {
	switch {
	case a > most:
		return api.ErrArg
	case m.free[w] < a:
		return api.ErrFew
	case tooMuch(bigOf(m.out), a):
		return api.ErrOver
	}
	m.free[w] -= a
	m.out += a
	return api.OK
}

func (m *list) hold(w token.Who, a money.Amount) api.Errno {
	switch {
	case a > most:
		return api.ErrArg
	case m.free[w] < a:
		return api.ErrFew
	}
	m.free[w] -= a
	m.held += a
	return api.OK
}

func (m *list) setFree(w token.Who, a money.Amount) api.Errno {
	switch {
	case a > most:
		return api.ErrArg
	case m.held < a:
		return api.ErrFew
	}
	m.held -= a
	m.free[w] += a
	return api.OK
}

// pair is a purse, and a list that is told the same.
type pair struct {
	t     testing.TB
	purse *Purse
	list  list
}

// begin is a pair in which there is nothing.
func begin(t testing.TB) *pair {
	t.Helper()
	p := &pair{t: t, purse: New()}
	p.mustBeAsList("New")
	return p
}

// apart is a pair of a copy of the purse, and one of the list.
func (p *pair) apart() *pair {
	p.t.Helper()
	q := &pair{t: p.t, purse: p.purse.Copy(), list: p.list}
	if q.purse == nil || q.purse == p.purse {
		p.t.Fatal("Copy: none, or the same one")
	}
	q.mustBeAsList("Copy")
	p.mustBeAsList("what was copied")
	return q
}

// mustBeAsList checks all that a purse tells, and that what is free and held is what was paid in, less what was paid out.
func (p *pair) mustBeAsList(what string) {
	p.t.Helper()
	sum := new(big.Int)
	for w := range parties {
		of := p.purse.Of(token.Who(w))
		if of != p.list.free[w] {
			p.t.Fatalf("%s: Of(%d): %d, want %d", what, w, of, p.list.free[w])
		}
		sum.Add(sum, bigOf(of))
	}
	held := p.purse.Held()
	if held != p.list.held {
		p.t.Fatalf("%s: Held: %d, want %d", what, held, p.list.held)
	}
	in, out := p.purse.Paid()
	if in != p.list.in || out != p.list.out {
		p.t.Fatalf("%s: Paid: %d, %d, want %d, %d", what, in, out, p.list.in, p.list.out)
	}
	there, left := sum.Add(sum, bigOf(held)), new(big.Int).Sub(bigOf(in), bigOf(out))
	if there.Cmp(left) != 0 || tooMuch(there) {
		p.t.Fatalf("%s: %d free and held, %d paid in less what was paid out", what, there, left)
	}
	if rows, want := gone(p.purse.All()), p.list.rows(); !slices.Equal(rows, want) {
		p.t.Fatalf("%s: All: %v, want %v", what, rows, want)
	}
}

// mustAnswer checks an answer against the list's, and that the purse tells what the list does.
func (p *pair) mustAnswer(what string, w token.Who, a money.Amount, e, want api.Errno) api.Errno {
	p.t.Helper()
	what = fmt.Sprintf("%s(%d, %d)", what, w, a)
	if e != want {
		p.t.Fatalf("%s: %d, want %d", what, int(e), int(want))
	}
	p.mustBeAsList(what)
	return e
}

func (p *pair) payIn(w token.Who, a money.Amount) api.Errno {
	p.t.Helper()
	return p.mustAnswer("In", w, a, p.purse.In(w, a), p.list.payIn(w, a))
}

func (p *pair) takeOut(w token.Who, a money.Amount) api.Errno {
	p.t.Helper()
	return p.mustAnswer("Out", w, a, p.purse.Out(w, a), p.list.takeOut(w, a))
}

func (p *pair) hold(w token.Who, a money.Amount) api.Errno {
	p.t.Helper()
	return p.mustAnswer("Hold", w, a, p.purse.Hold(w, a), p.list.hold(w, a))
}

func (p *pair) setFree(w token.Who, a money.Amount) api.Errno {
	p.t.Helper()
	return p.mustAnswer("Free", w, a, p.purse.Free(w, a), p.list.setFree(w, a))
}

// call is one of the four calls that change a purse.
type call struct {
	name string
	do   func(*pair, token.Who, money.Amount) api.Errno
}

func calls() []call {
	return []call{{"In", (*pair).payIn}, {"Out", (*pair).takeOut}, {"Hold", (*pair).hold}, {"Free", (*pair).setFree}}
}

// must checks an error by hand.
func must(t testing.TB, what string, e, want api.Errno) {
	t.Helper()
	if e != want {
		t.Errorf("%s: %d, want %d", what, int(e), int(want))
	}
}

// mustTell checks what a purse tells, by hand: what is held, what was paid in and out, and whose is free.
func (p *pair) mustTell(what string, held, in, out money.Amount, rows ...row) {
	p.t.Helper()
	if got := p.purse.Held(); got != held {
		p.t.Errorf("%s: Held: %d, want %d", what, got, held)
	}
	if i, o := p.purse.Paid(); i != in || o != out {
		p.t.Errorf("%s: Paid: %d, %d, want %d, %d", what, i, o, in, out)
	}
	if got := gone(p.purse.All()); !slices.Equal(got, rows) {
		p.t.Errorf("%s: All: %v, want %v", what, got, rows)
	}
	for _, r := range rows {
		if of := p.purse.Of(r.who); of != r.amount {
			p.t.Errorf("%s: Of(%d): %d, want %d", what, r.who, of, r.amount)
		}
	}
}

// with is a pair in which so much is held, and these parties have so much free.
func with(t testing.TB, held money.Amount, rows ...row) *pair {
	t.Helper()
	p := begin(t)
	must(t, "In", p.payIn(99, held), api.OK)
	must(t, "Hold", p.hold(99, held), api.OK)
	for _, r := range rows {
		must(t, "In", p.payIn(r.who, r.amount), api.OK)
	}
	return p
}

// crowd is a pair in which all 256 parties have some free, that came in no order, and some is held.
func crowd(t testing.TB, seed int64) *pair {
	t.Helper()
	p := begin(t)
	for _, w := range rand.New(rand.NewSource(seed)).Perm(parties) {
		must(t, "In", p.payIn(token.Who(w), money.Amount(3*w+8)), api.OK)
		must(t, "Hold", p.hold(token.Who(w), 7), api.OK)
	}
	return p
}

// filled is a pair in which all that there may be is there, of all 256 parties, a half of it held.
func filled(t testing.TB) *pair {
	t.Helper()
	p := begin(t)
	for w := range parties {
		must(t, "In", p.payIn(token.Who(w), most/parties), api.OK)
		must(t, "Hold", p.hold(token.Who(w), most/parties/2), api.OK)
	}
	return p
}

// P16.1: the chapter's example, and New

func TestExample(t *testing.T) {
	p := New()
	must(t, "In", p.In(1, 9), api.OK)
	must(t, "Hold", p.Hold(1, 4), api.OK)
	must(t, "Free", p.Free(2, 1), api.OK)
	if p.Of(1) != 5 || p.Of(2) != 1 || p.Held() != 3 {
		t.Errorf("1 has %d, 2 has %d, %d are held", p.Of(1), p.Of(2), p.Held())
	}
	if in, out := p.Paid(); in != 9 || out != 0 {
		t.Errorf("Paid: %d, %d", in, out)
	}
	if rows := gone(p.All()); !slices.Equal(rows, []row{{1, 5}, {2, 1}}) {
		t.Errorf("All: %v", rows)
	}
}

func TestNewIsNothing(t *testing.T) {
	p := New()
	if p == nil {
		t.Fatal("New: none")
	}
	for w := range parties {
		if a := p.Of(token.Who(w)); a != 0 {
			t.Errorf("Of(%d): %d", w, a)
		}
	}
	if held := p.Held(); held != 0 {
		t.Errorf("Held: %d", held)
	}
	if in, out := p.Paid(); in != 0 || out != 0 {
		t.Errorf("Paid: %d, %d", in, out)
	}
	for w, a := range p.All() {
		t.Errorf("All: %d, %d", w, a)
	}
}

func TestNewOnesAreApart(t *testing.T) {
	p, q := begin(t), begin(t)
	p.payIn(1, 5)
	p.hold(1, 2)
	q.mustTell("the other one", 0, 0, 0)
	q.payIn(2, 3)
	q.takeOut(2, 1)
	p.mustTell("the one", 2, 5, 0, row{1, 3})
	q.mustTell("the other one", 0, 3, 1, row{2, 2})
}

// P16.1: amounts of 0, and those that can't be

func TestZeroChangesNothing(t *testing.T) {
	pairs := []*pair{begin(t), with(t, 0, row{1, 5}), with(t, 7), with(t, 7, row{0, 1}, row{255, 5}),
		with(t, 0, row{1, most}), with(t, most), with(t, most-9, row{2, 9}), crowd(t, 1), filled(t)}
	spent := with(t, 0, row{3, most})
	spent.takeOut(3, most)
	for _, p := range append(pairs, spent) {
		was := p.list
		for w := range parties {
			for _, c := range calls() {
				must(t, c.name, c.do(p, token.Who(w), 0), api.OK)
			}
		}
		if p.list != was {
			t.Error("something changed")
		}
	}
}

// Whatever else is wrong, an amount above MaxAmount goes ahead.
func TestWrongAmounts(t *testing.T) {
	spent := with(t, 0, row{3, most})
	spent.takeOut(3, most)
	pairs := []*pair{begin(t), with(t, 0, row{1, 5}), with(t, 7), with(t, 7, row{0, 1}, row{255, 5}),
		with(t, 0, row{1, most}), with(t, most), with(t, most-9, row{2, 9}), spent}
	for _, p := range pairs {
		was := p.list
		for _, a := range wrongs() {
			for _, w := range some() {
				for _, c := range calls() {
					must(t, c.name, c.do(p, w, a), api.ErrArg)
				}
			}
		}
		if p.list != was {
			t.Error("something changed")
		}
	}
}

// P16.1: In

func TestInOfRightAmounts(t *testing.T) {
	for _, a := range rights() {
		for _, w := range some() {
			p := begin(t)
			must(t, "In", p.payIn(w, a), api.OK)
			p.mustTell("In", 0, a, 0, row{w, a})
		}
	}
}

func TestInMore(t *testing.T) {
	p := with(t, 4, row{3, 5})
	must(t, "In", p.payIn(3, 1), api.OK)
	must(t, "In", p.payIn(3, 10), api.OK)
	must(t, "In", p.payIn(4, 2), api.OK)
	p.mustTell("In", 4, 22, 0, row{3, 16}, row{4, 2})
}

func TestInByOnePartyUpToMaxAmount(t *testing.T) {
	for _, first := range []money.Amount{1, 2, most / 2, most - 2, most - 1} {
		p := with(t, 0, row{9, first})
		must(t, "one above", p.payIn(9, most-first+1), api.ErrOver)
		must(t, "by far", p.payIn(9, most), api.ErrOver)
		p.mustTell("one above", 0, first, 0, row{9, first})
		must(t, "up to it", p.payIn(9, most-first), api.OK)
		p.mustTell("up to it", 0, most, 0, row{9, most})
		for _, a := range rights() {
			must(t, "where all is there", p.payIn(9, a), api.ErrOver)
			must(t, "where all is there", p.payIn(10, a), api.ErrOver)
		}
		p.mustTell("where all is there", 0, most, 0, row{9, most})
	}
}

func TestInBySeveralPartiesUpToMaxAmount(t *testing.T) {
	p := with(t, 0, row{0, most / 4}, row{255, most / 2}, row{128, most/4 - 2})
	for _, w := range []token.Who{0, 1, 128, 255} {
		must(t, "one above", p.payIn(w, 3), api.ErrOver)
		must(t, "by far", p.payIn(w, most), api.ErrOver)
	}
	must(t, "up to one below", p.payIn(1, 1), api.OK)
	must(t, "one above", p.payIn(2, 2), api.ErrOver)
	must(t, "up to it", p.payIn(2, 1), api.OK)
	for w := range parties {
		must(t, "one above", p.payIn(token.Who(w), 1), api.ErrOver)
	}
	p.mustTell("up to it", 0, most, 0, row{0, most / 4}, row{1, 1}, row{2, 1}, row{128, most/4 - 2}, row{255, most / 2})
}

func TestInByAllPartiesUpToMaxAmount(t *testing.T) {
	p := filled(t)
	for w := range parties {
		must(t, "one above", p.payIn(token.Who(w), 1), api.ErrOver)
	}
	if in, out := p.purse.Paid(); in != most || out != 0 || p.purse.Held() != most/2 {
		t.Errorf("%d and %d paid, %d held", in, out, p.purse.Held())
	}
}

// What is held counts as what is free does.
func TestInUpToMaxAmountWhileSomeIsHeld(t *testing.T) {
	for _, held := range []money.Amount{1, 2, most / 2, most - 3, most - 2} {
		room := most - held - 1
		p := with(t, held, row{5, 1})
		for _, w := range []token.Who{5, 6, 99} {
			must(t, "one above", p.payIn(w, room+1), api.ErrOver)
			must(t, "by far", p.payIn(w, most), api.ErrOver)
		}
		p.mustTell("one above", held, held+1, 0, row{5, 1})
		q := p.apart()
		must(t, "up to it, by one that has some", p.payIn(5, room), api.OK)
		p.mustTell("up to it, by one that has some", held, most, 0, row{5, room + 1})
		must(t, "up to it, by one that has none", q.payIn(6, room), api.OK)
		q.mustTell("up to it, by one that has none", held, most, 0, row{5, 1}, row{6, room})
		for _, w := range []token.Who{5, 6, 99} {
			must(t, "one above", p.payIn(w, 1), api.ErrOver)
			must(t, "one above", q.payIn(w, 1), api.ErrOver)
		}
	}
}

func TestInWhileAllIsHeld(t *testing.T) {
	p := with(t, most)
	for _, a := range rights() {
		must(t, "by one", p.payIn(99, a), api.ErrOver)
		must(t, "by another one", p.payIn(1, a), api.ErrOver)
	}
	p.mustTell("all is held", most, most, 0)
}

// What was taken out again makes no room for what may ever be paid in.
func TestInUpToMaxAmountEver(t *testing.T) {
	for _, out := range []money.Amount{1, 2, most / 2, most - 2, most - 1} {
		p := with(t, 0, row{7, most - 1})
		must(t, "Out", p.takeOut(7, out), api.OK)
		for _, w := range []token.Who{7, 8} {
			must(t, "one above", p.payIn(w, 2), api.ErrOver)
			must(t, "by far", p.payIn(w, most), api.ErrOver)
		}
		must(t, "up to it", p.payIn(8, 1), api.OK)
		for _, w := range []token.Who{7, 8, 9} {
			must(t, "one above", p.payIn(w, 1), api.ErrOver)
			must(t, "as much as there is room for", p.payIn(w, out), api.ErrOver)
		}
		if in, o := p.purse.Paid(); in != most || o != out || p.purse.Of(7) != most-1-out || p.purse.Of(8) != 1 {
			t.Errorf("%d and %d paid, 7 has %d, 8 has %d", in, o, p.purse.Of(7), p.purse.Of(8))
		}
	}
}

func TestInUpToMaxAmountEverWhileSomeIsHeld(t *testing.T) {
	p := with(t, 10, row{7, most - 30})
	must(t, "Out", p.takeOut(7, most-40), api.OK)
	must(t, "one above", p.payIn(1, 21), api.ErrOver)
	must(t, "up to it", p.payIn(1, 20), api.OK)
	must(t, "one above", p.payIn(1, 1), api.ErrOver)
	p.mustTell("up to it", 10, most, most-40, row{1, 20}, row{7, 10})
}

// Of what is there, and of what ever was paid in, each party's part counts.
func TestInAgainAndAgain(t *testing.T) {
	p := begin(t)
	for i := range money.Amount(4) {
		must(t, "In", p.payIn(1, most/4), api.OK)
		must(t, "Out", p.takeOut(1, most/4), api.OK)
		p.mustTell("there and back", 0, (i+1)*(most/4), (i+1)*(most/4))
	}
	for w := range parties {
		must(t, "one above", p.payIn(token.Who(w), 1), api.ErrOver)
	}
	p.mustTell("all was there", 0, most, most)
}

// P16.1: Out

// Taken out or held, of what a party has free: which of both is the name's.
func testTaking(t *testing.T, c call, tell func(p *pair, what string, held, in, taken money.Amount, rows ...row)) {
	for _, has := range []money.Amount{2, 3, 10, api.Coin, most / 2, most - 5} {
		p := with(t, 0, row{7, has}, row{8, 4})
		in := has + 4
		must(t, "one more", c.do(p, 7, has+1), api.ErrFew)
		must(t, "by far", c.do(p, 7, most), api.ErrFew)
		must(t, "as much as both have", c.do(p, 7, has+4), api.ErrFew)
		tell(p, "one more", 0, in, 0, row{7, has}, row{8, 4})
		q := p.apart()
		must(t, "one", c.do(q, 7, 1), api.OK)
		tell(q, "one", 0, in, 1, row{7, has - 1}, row{8, 4})
		q = p.apart()
		must(t, "one less", c.do(q, 7, has-1), api.OK)
		tell(q, "one less", 0, in, has-1, row{7, 1}, row{8, 4})
		must(t, "the rest, and one", c.do(q, 7, 2), api.ErrFew)
		must(t, "the rest", c.do(q, 7, 1), api.OK)
		tell(q, "the rest", 0, in, has, row{8, 4})
		q = p.apart()
		must(t, "all", c.do(q, 7, has), api.OK)
		tell(q, "all", 0, in, has, row{8, 4})
		must(t, "one of none", c.do(q, 7, 1), api.ErrFew)
		must(t, "as much of none", c.do(q, 7, has), api.ErrFew)
		must(t, "the other one's, and one", c.do(q, 8, 5), api.ErrFew)
		must(t, "the other one's", c.do(q, 8, 4), api.OK)
		tell(q, "the other one's", 0, in, has+4)
		tell(p, "what was copied", 0, in, 0, row{7, has}, row{8, 4})
	}
}

// testTakingFromNone has parties without anything free, of whom nothing is taken out or held.
func testTakingFromNone(t *testing.T, c call) {
	p, q, r := begin(t), with(t, 0, row{1, most}), with(t, 50, row{1, 9})
	for _, a := range rights() {
		for _, w := range []token.Who{0, 2, 99, 254, 255} {
			must(t, "of a new one", c.do(p, w, a), api.ErrFew)
			must(t, "while another one has some", c.do(q, w, a), api.ErrFew)
			must(t, "while some is held", c.do(r, w, a), api.ErrFew)
		}
	}
	p.mustTell("of a new one", 0, 0, 0)
	q.mustTell("while another one has some", 0, most, 0, row{1, most})
	r.mustTell("while some is held", 50, 59, 0, row{1, 9})
}

// outs tells what taking out makes of a purse, holds what holding does.
func outs(p *pair, what string, held, in, taken money.Amount, rows ...row) {
	p.t.Helper()
	p.mustTell(what, held, in, taken, rows...)
}

func holds(p *pair, what string, held, in, taken money.Amount, rows ...row) {
	p.t.Helper()
	p.mustTell(what, held+taken, in, 0, rows...)
}

func TestOut(t *testing.T) {
	testTaking(t, call{"Out", (*pair).takeOut}, outs)
}

func TestOutOfNone(t *testing.T) {
	testTakingFromNone(t, call{"Out", (*pair).takeOut})
}

func TestOutOfMaxAmount(t *testing.T) {
	for _, w := range some() {
		p := with(t, 0, row{w, most})
		must(t, "all", p.takeOut(w, most), api.OK)
		p.mustTell("all", 0, most, most)
		q := with(t, 0, row{w, most})
		must(t, "one less", q.takeOut(w, most-1), api.OK)
		must(t, "all", q.takeOut(w, most), api.ErrFew)
		must(t, "the rest", q.takeOut(w, 1), api.OK)
		q.mustTell("the rest", 0, most, most)
	}
}

// What is held isn't taken out, but once it is free again.
func TestOutOfWhatIsHeld(t *testing.T) {
	p := with(t, 0, row{1, 9})
	must(t, "Hold", p.hold(1, 4), api.OK)
	must(t, "Out", p.takeOut(1, 6), api.ErrFew)
	must(t, "Out", p.takeOut(1, 9), api.ErrFew)
	must(t, "Out", p.takeOut(1, 5), api.OK)
	must(t, "Out", p.takeOut(1, 1), api.ErrFew)
	p.mustTell("all that was free", 4, 9, 5)
	must(t, "Free", p.setFree(2, 4), api.OK)
	must(t, "Out by one", p.takeOut(1, 1), api.ErrFew)
	must(t, "Out by the other one", p.takeOut(2, 4), api.OK)
	p.mustTell("all", 0, 9, 9)
}

// Up to just MaxAmount is ever taken out, as not more is ever paid in; behind that there is nothing to take: ErrFew goes ahead of ErrOver.
func TestOutUpToMaxAmountEver(t *testing.T) {
	p := with(t, 3, row{1, most / 2}, row{2, most/2 - 4})
	must(t, "one", p.takeOut(1, most/2), api.OK)
	must(t, "another one", p.takeOut(2, most/2-4), api.OK)
	must(t, "one more", p.takeOut(2, 5), api.ErrFew)
	p.mustTell("but for what is held", 3, most-1, most-4)
	must(t, "In", p.payIn(4, 1), api.OK)
	must(t, "Out", p.takeOut(4, 1), api.OK)
	must(t, "Free", p.setFree(5, 3), api.OK)
	must(t, "one more", p.takeOut(5, 4), api.ErrFew)
	must(t, "one less", p.takeOut(5, 2), api.OK)
	p.mustTell("one less", 0, most, most-1, row{5, 1})
	must(t, "up to it", p.takeOut(5, 1), api.OK)
	p.mustTell("up to it", 0, most, most)
	for w := range parties {
		must(t, "nothing is there", p.takeOut(token.Who(w), 1), api.ErrFew)
		must(t, "nothing is there", p.takeOut(token.Who(w), most), api.ErrFew)
		must(t, "none of nothing", p.takeOut(token.Who(w), 0), api.OK)
	}
	p.mustTell("nothing is there", 0, most, most)
}

// P16.1: Hold

func TestHold(t *testing.T) {
	testTaking(t, call{"Hold", (*pair).hold}, holds)
}

func TestHoldOfNone(t *testing.T) {
	testTakingFromNone(t, call{"Hold", (*pair).hold})
}

func TestHoldOfMaxAmount(t *testing.T) {
	for _, w := range some() {
		p := with(t, 0, row{w, most})
		must(t, "all", p.hold(w, most), api.OK)
		p.mustTell("all", most, most, 0)
		must(t, "all again", p.hold(w, most), api.ErrFew)
		q := with(t, 0, row{w, most})
		must(t, "one less", q.hold(w, most-1), api.OK)
		must(t, "all", q.hold(w, most), api.ErrFew)
		q.mustTell("one less", most-1, most, 0, row{w, 1})
		must(t, "the rest", q.hold(w, 1), api.OK)
		q.mustTell("the rest", most, most, 0)
	}
}

// What is held of several parties is held all in all, and once only.
func TestHoldOfSeveral(t *testing.T) {
	p := with(t, 0, row{1, 9}, row{2, 20}, row{255, most - 29})
	must(t, "Hold", p.hold(1, 4), api.OK)
	must(t, "Hold", p.hold(2, 20), api.OK)
	must(t, "Hold", p.hold(1, 5), api.OK)
	must(t, "Hold", p.hold(1, 1), api.ErrFew)
	must(t, "Hold", p.hold(255, most), api.ErrFew)
	p.mustTell("two of three", 29, most, 0, row{255, most - 29})
	must(t, "Hold", p.hold(255, most-29), api.OK)
	p.mustTell("all of three", most, most, 0)
}

func TestHoldOfAllParties(t *testing.T) {
	p := filled(t)
	for w := range parties {
		must(t, "one more", p.hold(token.Who(w), most/parties/2+1), api.ErrFew)
		must(t, "all", p.hold(token.Who(w), most/parties/2), api.OK)
	}
	p.mustTell("all", most, most, 0)
}

// P16.1: Free

func TestFreeForOneWhoHasNone(t *testing.T) {
	testFreeing(t, 0)
}

func TestFreeForOneWhoHasSome(t *testing.T) {
	testFreeing(t, 6)
}

// testFreeing sets what is held of one party free, for itself and for another one, that have so much free ahead of it.
func testFreeing(t *testing.T, has money.Amount) {
	for _, held := range []money.Amount{2, 3, 10, api.Coin, most / 2, most - 20} {
		for _, w := range []token.Who{99, 0, 255} {
			p := with(t, held, row{w, has}, row{50, 3})
			in := held + has + 3
			rest := []row{{50, 3}}
			tell := func(p *pair, what string, freed money.Amount) {
				t.Helper()
				rows := rest
				if has+freed > 0 {
					rows = append([]row{{w, has + freed}}, rest...)
				}
				slices.SortFunc(rows, func(a, b row) int { return int(a.who) - int(b.who) })
				p.mustTell(what, held-freed, in, 0, rows...)
			}
			must(t, "one more", p.setFree(w, held+1), api.ErrFew)
			must(t, "by far", p.setFree(w, most), api.ErrFew)
			must(t, "as much as is there", p.setFree(w, in), api.ErrFew)
			tell(p, "one more", 0)
			q := p.apart()
			must(t, "one", q.setFree(w, 1), api.OK)
			tell(q, "one", 1)
			q = p.apart()
			must(t, "one less", q.setFree(w, held-1), api.OK)
			tell(q, "one less", held-1)
			must(t, "the rest, and one", q.setFree(w, 2), api.ErrFew)
			must(t, "the rest", q.setFree(w, 1), api.OK)
			tell(q, "the rest", held)
			q = p.apart()
			must(t, "all", q.setFree(w, held), api.OK)
			tell(q, "all", held)
			must(t, "one of nothing", q.setFree(w, 1), api.ErrFew)
			must(t, "as much of nothing", q.setFree(w, held), api.ErrFew)
			tell(p, "what was copied", 0)
		}
	}
}

func TestFreeOfNothingHeld(t *testing.T) {
	p, q, r := begin(t), with(t, 0, row{1, 9}, row{2, 3}), with(t, 0, row{1, most})
	for _, a := range rights() {
		for _, w := range []token.Who{0, 1, 2, 255} {
			must(t, "of a new one", p.setFree(w, a), api.ErrFew)
			must(t, "while all is free", q.setFree(w, a), api.ErrFew)
			must(t, "while all there may be is free", r.setFree(w, a), api.ErrFew)
		}
	}
	p.mustTell("of a new one", 0, 0, 0)
	q.mustTell("while all is free", 0, 12, 0, row{1, 9}, row{2, 3})
	r.mustTell("while all there may be is free", 0, most, 0, row{1, most})
}

func TestFreeOfMaxAmount(t *testing.T) {
	for _, w := range some() {
		p := with(t, most)
		q := p.apart()
		must(t, "all", p.setFree(w, most), api.OK)
		p.mustTell("all", 0, most, 0, row{w, most})
		must(t, "all again", p.setFree(w, most), api.ErrFew)
		must(t, "one less", q.setFree(w, most-1), api.OK)
		must(t, "all", q.setFree(w, most), api.ErrFew)
		q.mustTell("one less", 1, most, 0, row{w, most - 1})
		must(t, "the rest, for another one", q.setFree(w^1, 1), api.OK)
		if q.purse.Of(w) != most-1 || q.purse.Of(w^1) != 1 || q.purse.Held() != 0 {
			t.Errorf("%d has %d, %d has %d, %d are held", w, q.purse.Of(w), w^1, q.purse.Of(w^1), q.purse.Held())
		}
	}
}

// Nobody asks of whom it was held, nor whether there would be room: it was there all along.
func TestFreeForOthers(t *testing.T) {
	p := with(t, 0, row{1, 9}, row{2, 20}, row{3, most - 29})
	must(t, "Hold", p.hold(1, 9), api.OK)
	must(t, "Hold", p.hold(2, 20), api.OK)
	must(t, "of both", p.setFree(4, 15), api.OK)
	must(t, "for one that has some", p.setFree(3, 10), api.OK)
	must(t, "one more", p.setFree(1, 5), api.ErrFew)
	must(t, "back", p.setFree(2, 3), api.OK)
	p.mustTell("of two, for three", 1, most, 0, row{2, 3}, row{3, most - 19}, row{4, 15})
	must(t, "the rest", p.setFree(1, 1), api.OK)
	p.mustTell("the rest", 0, most, 0, row{1, 1}, row{2, 3}, row{3, most - 19}, row{4, 15})
}

func TestHoldAndFreeThereAndBack(t *testing.T) {
	for _, from := range some() {
		for _, to := range some() {
			for _, a := range []money.Amount{1, 6, most} {
				p := with(t, 0, row{from, a})
				must(t, "Hold", p.hold(from, a), api.OK)
				must(t, "Free", p.setFree(to, a), api.OK)
				p.mustTell("there", 0, a, 0, row{to, a})
				must(t, "Hold", p.hold(to, a), api.OK)
				must(t, "Free", p.setFree(from, a), api.OK)
				p.mustTell("back", 0, a, 0, row{from, a})
			}
		}
	}
}

// P16.1: Of, Held and Paid

func TestOfEachParty(t *testing.T) {
	for w := range parties {
		p := begin(t)
		p.payIn(token.Who(w), 80)
		p.hold(token.Who(w), 2)
		p.takeOut(token.Who(w), 1)
		for o := range parties {
			if a := p.purse.Of(token.Who(o)); (a == 77) != (o == w) || (a == 0) != (o != w) {
				t.Errorf("%d has 77: Of(%d): %d", w, o, a)
			}
		}
		must(t, "Out", p.takeOut(token.Who(w), 77), api.OK)
		if a := p.purse.Of(token.Who(w)); a != 0 {
			t.Errorf("Of(%d): %d", w, a)
		}
	}
}

func TestOfAllPartiesAtOnce(t *testing.T) {
	p := begin(t)
	for w := range parties {
		p.payIn(token.Who(w), money.Amount(1000+w))
	}
	for w := range parties {
		if a := p.purse.Of(token.Who(w)); a != money.Amount(1000+w) {
			t.Errorf("Of(%d): %d", w, a)
		}
	}
}

// Paid is what was paid in and out by whomever; what is held and set free isn't paid.
func TestHeldAndPaidBehindEach(t *testing.T) {
	p := begin(t)
	must(t, "In", p.payIn(1, 10), api.OK)
	p.mustTell("In", 0, 10, 0, row{1, 10})
	must(t, "In", p.payIn(2, 5), api.OK)
	p.mustTell("In", 0, 15, 0, row{1, 10}, row{2, 5})
	must(t, "Hold", p.hold(1, 8), api.OK)
	p.mustTell("Hold", 8, 15, 0, row{1, 2}, row{2, 5})
	must(t, "Out", p.takeOut(2, 4), api.OK)
	p.mustTell("Out", 8, 15, 4, row{1, 2}, row{2, 1})
	must(t, "Hold", p.hold(2, 1), api.OK)
	p.mustTell("Hold", 9, 15, 4, row{1, 2})
	must(t, "Free", p.setFree(3, 6), api.OK)
	p.mustTell("Free", 3, 15, 4, row{1, 2}, row{3, 6})
	must(t, "Out", p.takeOut(3, 6), api.OK)
	p.mustTell("Out", 3, 15, 10, row{1, 2})
	must(t, "In", p.payIn(3, 6), api.OK)
	p.mustTell("In", 3, 21, 10, row{1, 2}, row{3, 6})
	must(t, "Free", p.setFree(1, 3), api.OK)
	p.mustTell("Free", 0, 21, 10, row{1, 5}, row{3, 6})
	must(t, "Out", p.takeOut(1, 5), api.OK)
	must(t, "Out", p.takeOut(3, 6), api.OK)
	p.mustTell("Out", 0, 21, 21)
}

// P16.1: All

func TestAllOfOne(t *testing.T) {
	for w := range parties {
		a := most - 300 - money.Amount(w)
		with(t, 0, row{token.Who(w), a}).mustTell("one", 0, a, 0, row{token.Who(w), a})
		with(t, 9, row{token.Who(w), a}).mustTell("one, while some is held", 9, a+9, 0, row{token.Who(w), a})
	}
}

func TestAllOfNone(t *testing.T) {
	begin(t).mustTell("a new one", 0, 0, 0)
	with(t, most).mustTell("all is held", most, most, 0)
	p := with(t, 0, row{5, 8})
	p.takeOut(5, 8)
	p.mustTell("all is out", 0, 8, 8)
}

func TestAllOfBothEnds(t *testing.T) {
	with(t, 0, row{255, 2}, row{0, 1}).mustTell("255 ahead of 0", 0, 3, 0, row{0, 1}, row{255, 2})
	with(t, 0, row{0, 1}, row{255, 2}).mustTell("0 ahead of 255", 0, 3, 0, row{0, 1}, row{255, 2})
}

func TestAllOfAllParties(t *testing.T) {
	for seed := range int64(5) {
		rows := gone(crowd(t, seed).purse.All())
		if len(rows) != parties {
			t.Fatalf("%d of them", len(rows))
		}
		for i, r := range rows {
			if r != (row{token.Who(i), money.Amount(3*i + 1)}) {
				t.Errorf("the %d-th: %v", i, r)
			}
		}
	}
}

func TestAllTellsWhoHasSomeAgain(t *testing.T) {
	p := with(t, 0, row{4, 9}, row{2, 1}, row{6, 3})
	must(t, "Hold", p.hold(4, 9), api.OK)
	p.mustTell("held", 9, 13, 0, row{2, 1}, row{6, 3})
	must(t, "Free", p.setFree(4, 2), api.OK)
	p.mustTell("free again", 7, 13, 0, row{2, 1}, row{4, 2}, row{6, 3})
	must(t, "Out", p.takeOut(4, 2), api.OK)
	p.mustTell("out", 7, 13, 2, row{2, 1}, row{6, 3})
	must(t, "In", p.payIn(4, 0), api.OK)
	must(t, "Free", p.setFree(4, 0), api.OK)
	p.mustTell("0", 7, 13, 2, row{2, 1}, row{6, 3})
	must(t, "In", p.payIn(4, 5), api.OK)
	p.mustTell("in again", 7, 18, 2, row{2, 1}, row{4, 5}, row{6, 3})
	must(t, "Out", p.takeOut(2, 1), api.OK)
	must(t, "Hold", p.hold(4, 5), api.OK)
	must(t, "Out", p.takeOut(6, 3), api.OK)
	p.mustTell("nobody", 12, 18, 6)
	must(t, "Free", p.setFree(2, 12), api.OK)
	p.mustTell("free again", 0, 18, 6, row{2, 12})
}

func TestAllGoneThroughTwice(t *testing.T) {
	for _, p := range []*pair{begin(t), with(t, 2, row{3, 4}), crowd(t, 7)} {
		all := p.purse.All()
		for range 3 {
			if rows := gone(all); !slices.Equal(rows, p.list.rows()) {
				t.Errorf("All: %v, want %v", rows, p.list.rows())
			}
		}
		if rows := gone(p.purse.All()); !slices.Equal(rows, gone(all)) {
			t.Errorf("another All: %v", rows)
		}
	}
}

func TestAllLeftEarly(t *testing.T) {
	p := crowd(t, 9)
	all, want := p.purse.All(), p.list.rows()
	for n := 1; n <= parties; n++ {
		var rows []row
		for w, a := range all {
			if rows = append(rows, row{w, a}); len(rows) == n {
				break
			}
		}
		if !slices.Equal(rows, want[:n]) {
			t.Fatalf("of %d: %v", n, rows)
		}
	}
	if rows := gone(all); !slices.Equal(rows, want) {
		t.Errorf("behind that: %v", rows)
	}
	p.mustBeAsList("left early")
}

// An iterator that is left doesn't tell any more.
func TestAllStopsAtOnce(t *testing.T) {
	told := 0
	crowd(t, 3).purse.All()(func(token.Who, money.Amount) bool {
		told++
		return told < 5
	})
	if told != 5 {
		t.Errorf("%d told", told)
	}
}

func TestAllInAll(t *testing.T) {
	p := with(t, 0, row{1, 10}, row{5, 20}, row{3, 30})
	all, want := p.purse.All(), p.list.rows()
	n := 0
	for w, a := range all {
		if want[n] != (row{w, a}) || !slices.Equal(gone(all), want) {
			t.Errorf("the %d-th: %d, %d", n, w, a)
		}
		n++
	}
	if n != len(want) {
		t.Errorf("%d of them", n)
	}
}

// What All answered is no part of the purse: it tells what was, and the purse may be told more meanwhile.
func TestAllIsAsItWas(t *testing.T) {
	p := crowd(t, 11)
	all, want := p.purse.All(), p.list.rows()
	n := 0
	for w, a := range all {
		if want[n] != (row{w, a}) {
			t.Fatalf("the %d-th: %d, %d", n, w, a)
		}
		n++
		must(t, "In", p.payIn(w+1, 1), api.OK)
		must(t, "Hold", p.hold(w, 1), api.OK)
		must(t, "Out", p.takeOut(w, p.purse.Of(w)), api.OK)
	}
	if n != parties {
		t.Errorf("%d of them", n)
	}
	if rows := gone(all); !slices.Equal(rows, want) {
		t.Errorf("behind that: %v", rows)
	}
}

// P16.1: Copy

func TestCopyOfAnEmptyPurse(t *testing.T) {
	p := begin(t)
	q := p.apart()
	q.payIn(1, 5)
	q.hold(1, 4)
	p.mustTell("what was copied", 0, 0, 0)
	p.payIn(2, 3)
	p.takeOut(2, 1)
	q.mustTell("the copy", 4, 5, 0, row{1, 1})
	p.mustTell("what was copied", 0, 3, 1, row{2, 2})

	r := begin(t)
	s := r.apart()
	r.payIn(9, most)
	s.mustTell("the copy", 0, 0, 0)
	must(t, "the copy", s.payIn(1, most), api.OK)
	r.mustTell("what was copied", 0, most, 0, row{9, most})
}

// A copy knows what ever was paid, also where nothing is there any more.
func TestCopyOfAPurseThatIsEmptyAgain(t *testing.T) {
	p := with(t, 0, row{1, most - 5})
	p.takeOut(1, most-5)
	q := p.apart()
	q.mustTell("the copy", 0, most-5, most-5)
	must(t, "one above", q.payIn(1, 6), api.ErrOver)
	must(t, "what was copied", p.payIn(1, 2), api.OK)
	must(t, "the copy", q.payIn(2, 5), api.OK)
	p.mustTell("what was copied", 0, most-3, most-5, row{1, 2})
	q.mustTell("the copy", 0, most, most-5, row{2, 5})
}

func TestCopyOfAFullPurse(t *testing.T) {
	p := filled(t)
	q := p.apart()
	rnd := rand.New(rand.NewSource(4))
	for range 300 {
		told, other := p, q
		if rnd.Intn(2) == 0 {
			told, other = q, p
		}
		step(told, rnd)
		other.mustBeAsList("the other one")
	}
	must(t, "no room", q.apart().payIn(0, 1), api.ErrOver)
	must(t, "no room", p.apart().payIn(0, 1), api.ErrOver)
}

// Whichever of two is told something, the other one is as it was.
func TestEachOfTwoToldMore(t *testing.T) {
	for _, c := range calls() {
		for _, first := range []bool{true, false} {
			p := with(t, 20, row{1, 30}, row{2, 5})
			q := p.apart()
			told, other := p, q
			if first {
				told, other = q, p
			}
			must(t, c.name, c.do(told, 1, 7), api.OK)
			other.mustTell("the other one", 20, 55, 0, row{1, 30}, row{2, 5})
			must(t, c.name, c.do(other, 2, 1), api.OK)
			told.mustBeAsList("the one")
		}
	}
}

func TestCopyOfACopy(t *testing.T) {
	p := with(t, 2, row{1, 5})
	q := p.apart()
	q.payIn(1, 1)
	r := q.apart()
	r.hold(1, 3)
	r.setFree(2, 4)
	q.takeOut(1, 6)
	p.mustTell("the first one", 2, 7, 0, row{1, 5})
	q.mustTell("the second one", 2, 8, 6)
	r.mustTell("the third one", 1, 8, 0, row{1, 3}, row{2, 4})
}

// P16.1: a purse that isn't there

func TestNilPurse(t *testing.T) {
	var p *Purse
	for _, a := range slices.Concat([]money.Amount{0}, rights(), wrongs()) {
		for _, w := range some() {
			must(t, "In", p.In(w, a), api.ErrArg)
			must(t, "Out", p.Out(w, a), api.ErrArg)
			must(t, "Hold", p.Hold(w, a), api.ErrArg)
			must(t, "Free", p.Free(w, a), api.ErrArg)
		}
	}
	for w := range parties {
		if a := p.Of(token.Who(w)); a != 0 {
			t.Errorf("Of(%d): %d", w, a)
		}
	}
	if held := p.Held(); held != 0 {
		t.Errorf("Held: %d", held)
	}
	if in, out := p.Paid(); in != 0 || out != 0 {
		t.Errorf("Paid: %d, %d", in, out)
	}
	all := p.All()
	for range 2 {
		if rows := gone(all); len(rows) != 0 {
			t.Errorf("All: %v", rows)
		}
	}
	if c := p.Copy(); c != nil {
		t.Errorf("Copy: %v", c)
	}
}

// Nothing is paid into a purse that New didn't make: it stays as empty as it is.
func TestPurseWithoutNew(t *testing.T) {
	p := &pair{t: t, purse: &Purse{}}
	q := p.apart()
	for _, p := range []*pair{p, q} {
		for _, a := range append(rights(), wrongs()...) {
			must(t, "In", p.purse.In(1, a), api.ErrArg)
			if p.purse.Out(1, a) == api.OK || p.purse.Hold(1, a) == api.OK || p.purse.Free(1, a) == api.OK {
				t.Errorf("%d of nothing", a)
			}
			p.mustBeAsList("without New")
		}
	}
}

// P16.2

// step tells both of a pair the same: something of any kind, by parties of which some have none, and amounts near what is there.
func step(p *pair, rnd *rand.Rand) {
	p.t.Helper()
	w := token.Who(rnd.Intn(parties))
	if rows := p.list.rows(); len(rows) > 0 && rnd.Intn(4) > 0 {
		w = rows[rnd.Intn(len(rows))].who
	}
	c := calls()[rnd.Intn(4)]
	in, out := p.purse.Paid()
	c.do(p, w, near(p, w, rnd))
	if i, o := p.purse.Paid(); i != in && c.name != "In" || o != out && c.name != "Out" {
		p.t.Fatalf("%s: Paid: %d, %d, it was %d, %d", c.name, i, o, in, out)
	}
}

// near answers an amount that is right or wrong, or near what a party has, or near what there is room for, or near what is held.
func near(p *pair, w token.Who, rnd *rand.Rand) money.Amount {
	shift := money.Amount(rnd.Intn(3)) - 1 // one less goes round where there is none
	switch rnd.Intn(9) {
	case 0:
		return wrongs()[rnd.Intn(len(wrongs()))]
	case 1:
		return rights()[rnd.Intn(len(rights()))]
	case 2:
		return p.list.free[w] + shift
	case 3:
		return most - p.list.in + shift
	case 4:
		return p.list.held + shift
	case 5:
		return p.list.held / 2
	case 6:
		return money.Amount(rnd.Intn(20))
	default:
		return money.Amount(rnd.Uint64() >> (2 + rnd.Intn(62)))
	}
}

// Behind each step of each pair all is held against the list, the sum of all that is there among it.
func TestLongRows(t *testing.T) {
	for seed := range int64(30) {
		rnd := rand.New(rand.NewSource(100 + seed))
		p := begin(t)
		for range 800 {
			step(p, rnd)
		}
	}
}

// All rows of so many steps by two parties, with amounts at the ends.
func TestAllShortRows(t *testing.T) {
	var steps []func(*pair) api.Errno
	for _, a := range []money.Amount{0, 1, most - 1, most, most + 1} {
		for _, w := range []token.Who{0, 255} {
			for _, c := range calls() {
				steps = append(steps, func(p *pair) api.Errno { return c.do(p, w, a) })
			}
		}
	}
	var goOn func(p *pair, left int)
	goOn = func(p *pair, left int) {
		for _, do := range steps {
			q := &pair{t: t, purse: p.purse.Copy(), list: p.list}
			if do(q); left > 1 {
				goOn(q, left-1)
			}
		}
	}
	goOn(begin(t), 2)
	spent := with(t, 0, row{0, most - 1})
	spent.takeOut(0, most-2)
	for _, p := range []*pair{with(t, 0, row{0, 1}), with(t, 1), with(t, 0, row{0, most}), with(t, most),
		with(t, 1, row{0, most - 1}), with(t, most-1, row{255, 1}), with(t, 1, row{0, 1}, row{255, 1}), spent} {
		goOn(p, 2)
	}
}

// What is refused leaves everything, and what comes behind it is answered as if it hadn't been.
func TestWhatIsRefusedChangesNothing(t *testing.T) {
	p := with(t, 10, row{1, most - 40}, row{2, 20}, row{3, 10})
	for range 3 {
		for _, a := range wrongs() {
			for _, c := range calls() {
				must(t, c.name, c.do(p, 2, a), api.ErrArg)
				must(t, c.name, c.do(p, 4, a), api.ErrArg)
			}
		}
		must(t, "In", p.payIn(2, 1), api.ErrOver)
		must(t, "In by one without", p.payIn(4, most), api.ErrOver)
		must(t, "Out", p.takeOut(2, 21), api.ErrFew)
		must(t, "Out of none", p.takeOut(4, 1), api.ErrFew)
		must(t, "Hold", p.hold(3, 11), api.ErrFew)
		must(t, "Hold of none", p.hold(4, most), api.ErrFew)
		must(t, "Free", p.setFree(2, 11), api.ErrFew)
		must(t, "Free for one without", p.setFree(4, most), api.ErrFew)
	}
	p.mustTell("refused", 10, most, 0, row{1, most - 40}, row{2, 20}, row{3, 10})
	must(t, "Out", p.takeOut(2, 20), api.OK)
	must(t, "Hold", p.hold(3, 10), api.OK)
	must(t, "Free", p.setFree(4, 20), api.OK)
	p.mustTell("behind that", 0, most, 20, row{1, most - 40}, row{4, 20})
}

// What a purse answers hangs on what it was told alone: not on other purses, nor on in which order the parties came.
func TestTheOrderOfPartiesIsNotSeen(t *testing.T) {
	want := crowd(t, 0)
	for seed := int64(1); seed < 6; seed++ {
		p := crowd(t, seed)
		if !slices.Equal(gone(p.purse.All()), gone(want.purse.All())) || p.list != want.list {
			t.Errorf("All: %v", gone(p.purse.All()))
		}
	}
}
