package due

import (
	"fmt"
	"iter"
	"math"
	"math/rand"
	"slices"
	"testing"

	"pontage/api"
)

const (
	most   = 256
	latest = uint64(1 << 40)
	full   = uint64(math.MaxUint64)
)

// ticks are right ones, those at the ends among them.
func ticks() []uint64 {
	return []uint64{0, 1, 2, 5, 1000, 1 << 32, latest - 1, latest}
}

func wrongTicks() []uint64 {
	return []uint64{latest + 1, latest + 2, 1 << 41, 1<<63 - 1, 1 << 63, full - 1, full}
}

// entry is a thing that was taken once, when it is due, and whether it was dropped.
type entry[T comparable] struct {
	thing T
	due   uint64
	gone  bool
}

// record is all that ever was taken: the n-th one has the number n, so none is given twice.
type record[T comparable] struct {
	most  int
	taken []entry[T]
}

// at answers the entry of a number that is there.
func (m *record[T]) at(id uint64) *entry[T] {
	for i := range m.taken {
		if uint64(i)+1 == id && !m.taken[i].gone {
			return &m.taken[i]
		}
	}
	return nil
}

// numbers answers those that are there, rising.
func (m *record[T]) numbers() []uint64 {
	var l []uint64
	for i := range m.taken {
		if !m.taken[i].gone {
			l = append(l, uint64(i)+1)
		}
	}
	return l
}

// over answers those that are late, by going through all ticks at which something is due, from the first one on.
func (m *record[T]) over(now uint64) []uint64 {
	var l []uint64
	var dues []uint64
	for _, id := range m.numbers() {
		dues = append(dues, m.at(id).due)
	}
	slices.Sort(dues)
	for _, due := range slices.Compact(dues) {
		for _, id := range m.numbers() {
			if m.at(id).due == due && due < now {
				l = append(l, id)
			}
		}
	}
	return l
}

func (m *record[T]) add(x T, due uint64) (uint64, api.Errno) {
	switch {
	case due > latest:
		return 0, api.ErrArg
	case len(m.numbers()) == m.most:
		return 0, api.ErrFull
	}
	m.taken = append(m.taken, entry[T]{thing: x, due: due})
	return uint64(len(m.taken)), api.OK
}

func (m *record[T]) set(id uint64, x T) api.Errno {
	e := m.at(id)
	if e == nil {
		return api.ErrNone
	}
	e.thing = x
	return api.OK
}

func (m *record[T]) drop(id uint64) api.Errno {
	e := m.at(id)
	if e == nil {
		return api.ErrNone
	}
	e.gone = true
	return api.OK
}

// moments are ticks around those at which something of it is or was due, and those at the ends.
func (m *record[T]) moments() []uint64 {
	l := []uint64{0, 1, latest, latest + 1, 1 << 63, full}
	for _, e := range m.taken {
		l = append(l, e.due-1, e.due, e.due+1) // of 0, one less goes round
	}
	slices.Sort(l)
	return slices.Compact(l)
}

// asked are numbers that were given, and others.
func (m *record[T]) asked() []uint64 {
	last := uint64(len(m.taken))
	l := []uint64{1 << 32, 1 << 63, full - 1, full}
	for id := range last + 3 {
		l = append(l, id)
	}
	return l
}

// pair is a table, and a record that is told the same.
type pair[T comparable] struct {
	t      testing.TB
	table  *Table[T]
	record record[T]
}

// begin is a pair without things.
func begin[T comparable](t testing.TB, most int) *pair[T] {
	t.Helper()
	x, e := New[T](most)
	if x == nil || e != api.OK {
		t.Fatalf("New(%d): %v, %d", most, x, int(e))
	}
	p := &pair[T]{t: t, table: x, record: record[T]{most: most}}
	p.mustBeAsRecord("New")
	return p
}

// with is a pair of texts, "1", "2" and so on, due at these ticks.
func with(t testing.TB, most int, dues ...uint64) *pair[string] {
	t.Helper()
	p := begin[string](t, most)
	for i, due := range dues {
		p.mustAdd(text(i+1), due, uint64(i)+1)
	}
	return p
}

func text(n int) string {
	return fmt.Sprint(n)
}

// apart is a pair of a copy of the table, and one of the record.
func (p *pair[T]) apart() *pair[T] {
	p.t.Helper()
	q := &pair[T]{t: p.t, table: p.table.Copy(), record: p.record}
	q.record.taken = slices.Clone(p.record.taken)
	if q.table == nil || q.table == p.table {
		p.t.Fatal("Copy: none, or the same one")
	}
	q.mustBeAsRecord("Copy")
	p.mustBeAsRecord("what was copied")
	return q
}

// item is a number, and its thing.
type item[T comparable] struct {
	id    uint64
	thing T
}

// items answers what is told of both.
func items[T comparable](all iter.Seq2[uint64, T]) []item[T] {
	var l []item[T]
	for id, x := range all {
		l = append(l, item[T]{id, x})
	}
	return l
}

// mustBeAsRecord checks all that a table tells.
func (p *pair[T]) mustBeAsRecord(what string) {
	p.t.Helper()
	p.mustHold(what)
	for _, id := range p.record.asked() {
		p.mustGet(what, id)
		for _, now := range p.record.moments() {
			e := p.record.at(id)
			if want := e != nil && e.due < now; p.table.Late(id, now) != want {
				p.t.Fatalf("%s: Late(%d, %d): %t", what, id, now, !want)
			}
		}
	}
	for _, now := range p.record.moments() {
		p.mustBeOver(what, now)
	}
}

// mustHold checks how many there are, which number was the last, and all of them, gone through twice.
func (p *pair[T]) mustHold(what string) {
	p.t.Helper()
	var want []item[T]
	for _, id := range p.record.numbers() {
		want = append(want, item[T]{id, p.record.at(id).thing})
	}
	if n := p.table.Len(); n != len(want) {
		p.t.Fatalf("%s: Len: %d, want %d", what, n, len(want))
	}
	if last := p.table.Last(); last != uint64(len(p.record.taken)) {
		p.t.Fatalf("%s: Last: %d, want %d", what, last, len(p.record.taken))
	}
	all := p.table.All()
	for range 2 {
		if l := items(all); !slices.Equal(l, want) {
			p.t.Fatalf("%s: All: %v, want %v", what, l, want)
		}
	}
}

// mustGet checks what is told of a number.
func (p *pair[T]) mustGet(what string, id uint64) {
	p.t.Helper()
	want := p.record.at(id)
	ok := want != nil
	if !ok {
		want = &entry[T]{}
	}
	if x, due, is := p.table.Get(id); x != want.thing || due != want.due || is != ok {
		p.t.Fatalf("%s: Get(%d): %v, %d, %t; want %v, %d, %t", what, id, x, due, is, want.thing, want.due, ok)
	}
}

// mustBeOver checks which are late, gone through twice.
func (p *pair[T]) mustBeOver(what string, now uint64) {
	p.t.Helper()
	want := p.record.over(now)
	over := p.table.Over(now)
	for range 2 {
		if l := slices.Collect(over); !slices.Equal(l, want) {
			p.t.Fatalf("%s: Over(%d): %d, want %d", what, now, l, want)
		}
	}
}

// add tells both the same, and checks what they answer, and all that is told behind that; so do set and drop.
func (p *pair[T]) add(x T, due uint64) (uint64, api.Errno) {
	p.t.Helper()
	what := fmt.Sprintf("Add(%v, %d)", x, due)
	id, e := p.table.Add(x, due)
	if want, wanted := p.record.add(x, due); id != want || e != wanted {
		p.t.Fatalf("%s: %d, %d; want %d, %d", what, id, int(e), want, int(wanted))
	}
	p.mustBeAsRecord(what)
	return id, e
}

func (p *pair[T]) set(id uint64, x T) api.Errno {
	p.t.Helper()
	what := fmt.Sprintf("Set(%d, %v)", id, x)
	e := p.table.Set(id, x)
	if want := p.record.set(id, x); e != want {
		p.t.Fatalf("%s: %d, want %d", what, int(e), int(want))
	}
	p.mustBeAsRecord(what)
	return e
}

func (p *pair[T]) drop(id uint64) api.Errno {
	p.t.Helper()
	what := fmt.Sprintf("Drop(%d)", id)
	e := p.table.Drop(id)
	if want := p.record.drop(id); e != want {
		p.t.Fatalf("%s: %d, want %d", what, int(e), int(want))
	}
	p.mustBeAsRecord(what)
	return e
}

// must checks an error by hand.
func (p *pair[T]) must(e, want api.Errno) {
	p.t.Helper()
	if e != want {
		p.t.Errorf("%d, want %d", int(e), int(want))
	}
}

// mustAdd checks the number of what is taken by hand.
func (p *pair[T]) mustAdd(x T, due, want uint64) {
	p.t.Helper()
	if id, e := p.add(x, due); id != want || e != api.OK {
		p.t.Errorf("Add(%v, %d): %d, %d; want %d", x, due, id, int(e), want)
	}
}

// mustNotAdd checks by hand that nothing is taken.
func (p *pair[T]) mustNotAdd(x T, due uint64, want api.Errno) {
	p.t.Helper()
	if id, e := p.add(x, due); id != 0 || e != want {
		p.t.Errorf("Add(%v, %d): %d, %d; want 0, %d", x, due, id, int(e), int(want))
	}
}

// mustBe checks by hand what a number has.
func (p *pair[T]) mustBe(id uint64, x T, due uint64) {
	p.t.Helper()
	if y, at, ok := p.table.Get(id); y != x || at != due || !ok {
		p.t.Errorf("Get(%d): %v, %d, %t; want %v, %d, true", id, y, at, ok, x, due)
	}
}

// mustTell checks by hand which numbers there are, and the last one.
func (p *pair[T]) mustTell(last uint64, numbers ...uint64) {
	p.t.Helper()
	var l []uint64
	for id := range p.table.All() {
		l = append(l, id)
	}
	if !slices.Equal(l, numbers) || p.table.Len() != len(numbers) || p.table.Last() != last {
		p.t.Errorf("All: %d, Len: %d, Last: %d; want %d, last %d", l, p.table.Len(), p.table.Last(), numbers, last)
	}
}

// mustOver checks by hand which are late, and when.
func (p *pair[T]) mustOver(now uint64, want ...uint64) {
	p.t.Helper()
	if l := slices.Collect(p.table.Over(now)); !slices.Equal(l, want) {
		p.t.Errorf("Over(%d): %d, want %d", now, l, want)
	}
}

// mustNotBe checks by hand that each call says of these numbers that there is nothing.
func (p *pair[T]) mustNotBe(x T, numbers ...uint64) {
	p.t.Helper()
	for _, id := range numbers {
		if y, due, ok := p.table.Get(id); y != *new(T) || due != 0 || ok {
			p.t.Errorf("Get(%d): %v, %d, %t", id, y, due, ok)
		}
		for _, now := range append(ticks(), wrongTicks()...) {
			if p.table.Late(id, now) {
				p.t.Errorf("Late(%d, %d)", id, now)
			}
		}
		p.must(p.set(id, x), api.ErrNone)
		p.must(p.drop(id), api.ErrNone)
	}
}

// P18.1: the chapter's example, and New

func TestExample(t *testing.T) {
	x, e := New[string](3)
	if e != api.OK {
		t.Fatal(int(e))
	}
	if id, e := x.Add("a", 5); id != 1 || e != api.OK {
		t.Errorf("Add: %d, %d", id, int(e))
	}
	if x.Late(1, 5) || !x.Late(1, 6) {
		t.Error("Late")
	}
}

func TestNewOfRightNumbers(t *testing.T) {
	for n := 1; n <= most; n++ {
		p := begin[string](t, n)
		p.mustTell(0)
		p.mustOver(full)
		p.mustNotBe("x", 0, 1, 2, uint64(n), latest, full)
	}
}

func TestNewOfWrongNumbers(t *testing.T) {
	for _, n := range []int{0, -1, -2, -most, math.MinInt32, math.MinInt + 1, math.MinInt, most + 1, most + 2, 512, 1 << 16, math.MaxInt32, math.MaxInt - 1, math.MaxInt} {
		if x, e := New[string](n); x != nil || e != api.ErrArg {
			t.Errorf("New(%d): %v, %d", n, x, int(e))
		}
		if x, e := New[*int](n); x != nil || e != api.ErrArg {
			t.Errorf("New(%d): %v, %d", n, x, int(e))
		}
	}
}

func TestNewOnesAreApart(t *testing.T) {
	p, q := begin[string](t, 2), begin[string](t, 2)
	p.mustAdd("a", 5, 1)
	p.mustAdd("b", 5, 2)
	q.mustTell(0)
	q.mustAdd("c", 9, 1)
	p.mustBe(1, "a", 5)
	q.mustBe(1, "c", 9)
}

// P18.1: Add

func TestAddDueAtRightTicks(t *testing.T) {
	for _, due := range ticks() {
		p := begin[string](t, 3)
		p.mustAdd("a", due, 1)
		p.mustBe(1, "a", due)
		p.mustAdd("b", due, 2)
		p.mustBe(2, "b", due)
		p.mustTell(2, 1, 2)
	}
}

// What is refused gives no number away.
func TestAddDueAtWrongTicks(t *testing.T) {
	p := begin[string](t, 3)
	for _, due := range wrongTicks() {
		p.mustNotAdd("a", due, api.ErrArg)
	}
	p.mustTell(0)
	p.mustAdd("a", latest, 1)
	for _, due := range wrongTicks() {
		p.mustNotAdd("b", due, api.ErrArg)
	}
	p.mustTell(1, 1)
	p.mustAdd("b", 0, 2)
}

func TestAddUpToAsManyAsMayBe(t *testing.T) {
	for _, n := range []int{1, 2, 3, 10, 255, 256} {
		p := begin[int](t, n)
		for i := range n {
			if id, e := p.table.Add(i, uint64(i%7)); id != uint64(i)+1 || e != api.OK {
				t.Fatalf("Add: %d, %d", id, int(e))
			}
			p.record.add(i, uint64(i%7))
			p.mustHold("Add")
		}
		last := uint64(n)
		p.must(p.record.drop(last), p.table.Drop(last))
		p.mustAdd(-1, 3, last+1)
		p.mustNotAdd(-2, 0, api.ErrFull)
		p.mustNotAdd(-2, latest, api.ErrFull)
		p.mustNotAdd(-2, latest+1, api.ErrArg) // both hold
		p.mustNotAdd(-2, full, api.ErrArg)
		p.must(p.drop(last+1), api.OK)
		p.mustNotAdd(-2, full, api.ErrArg)
		p.mustAdd(-3, 0, last+2)
		p.mustNotAdd(-4, 0, api.ErrFull)
		p.mustBe(last+2, -3, 0)
		if p.table.Len() != n || p.table.Last() != last+2 {
			t.Errorf("Len: %d, Last: %d", p.table.Len(), p.table.Last())
		}
	}
}

// P18.1: Get, Set, Drop and Late of any number

func TestNumbersThatAreThereOrNot(t *testing.T) {
	p := with(t, 9, 7, 5, 7, 6, 5)
	p.must(p.drop(3), api.OK)
	p.mustNotBe("x", 0, 3, 6, 7, 1<<32, latest, 1<<63, full-1, full)
	p.mustTell(5, 1, 2, 4, 5)
	for id, due := range map[uint64]uint64{1: 7, 2: 5, 4: 6, 5: 5} {
		p.mustBe(id, text(int(id)), due)
		p.must(p.apart().set(id, "x"), api.OK)
		p.must(p.apart().drop(id), api.OK)
	}
	p.must(p.drop(1), api.OK)
	p.must(p.drop(5), api.OK)
	p.mustNotBe("x", 0, 1, 3, 5, 6)
	p.mustTell(5, 2, 4)
}

func TestSetLeavesWhenItIsDueAndWhereItStands(t *testing.T) {
	p := with(t, 5, 7, 5, 7)
	for id := range uint64(3) {
		p.must(p.set(id+1, "x"), api.OK)
	}
	p.must(p.set(2, "y"), api.OK)
	p.mustBe(1, "x", 7)
	p.mustBe(2, "y", 5)
	p.mustBe(3, "x", 7)
	p.mustTell(3, 1, 2, 3)
	p.mustOver(8, 2, 1, 3)
	p.must(p.set(2, ""), api.OK)
	p.mustBe(2, "", 5)
	p.mustAdd("z", 5, 4)
	p.mustOver(8, 2, 4, 1, 3)
}

func TestDropOfEachAndOfAll(t *testing.T) {
	for _, row := range [][]uint64{{1, 2, 3, 4}, {4, 3, 2, 1}, {2, 3, 1, 4}, {3, 1, 4, 2}, {2, 4, 1, 3}} {
		p := with(t, 4, 9, 8, 9, 8)
		left := []uint64{1, 2, 3, 4}
		for _, id := range row {
			p.must(p.drop(id), api.OK)
			p.must(p.drop(id), api.ErrNone)
			left = slices.DeleteFunc(left, func(x uint64) bool { return x == id })
			p.mustTell(4, left...)
		}
		p.mustOver(full)
		p.mustAdd("e", 1, 5)
		p.mustTell(5, 5)
		p.must(p.drop(5), api.OK)
		p.mustAdd("f", 1, 6)
		p.mustTell(6, 6)
	}
}

func TestLateAroundTheTick(t *testing.T) {
	for _, due := range ticks() {
		p := with(t, 3, due)
		for _, now := range []uint64{due, due - min(due, 1), 0} {
			if p.table.Late(1, now) {
				t.Errorf("due at %d: late at %d", due, now)
			}
			p.mustOver(now)
		}
		for _, now := range append(wrongTicks(), due+1, due+2) {
			if !p.table.Late(1, now) {
				t.Errorf("due at %d: not late at %d", due, now)
			}
			p.mustOver(now, 1)
		}
	}
}

// P18.1: All and Over

func TestAllByRisingNumbers(t *testing.T) {
	p := with(t, 6, 9, 8, 7, 6, 5, 4)
	if l := items(p.table.All()); !slices.Equal(l, []item[string]{{1, "1"}, {2, "2"}, {3, "3"}, {4, "4"}, {5, "5"}, {6, "6"}}) {
		t.Errorf("All: %v", l)
	}
	p.must(p.drop(4), api.OK)
	p.must(p.drop(1), api.OK)
	p.must(p.set(5, "e"), api.OK)
	p.mustAdd("g", 0, 7)
	if l := items(p.table.All()); !slices.Equal(l, []item[string]{{2, "2"}, {3, "3"}, {5, "e"}, {6, "6"}, {7, "g"}}) {
		t.Errorf("All: %v", l)
	}
}

func TestOverByTicksAndNumbers(t *testing.T) {
	rising := with(t, 6, 1, 2, 3, 4)
	rising.mustOver(0)
	rising.mustOver(1)
	rising.mustOver(2, 1)
	rising.mustOver(4, 1, 2, 3)
	rising.mustOver(5, 1, 2, 3, 4)
	rising.mustOver(full, 1, 2, 3, 4)

	falling := with(t, 6, 4, 3, 2, 1)
	falling.mustOver(1)
	falling.mustOver(2, 4)
	falling.mustOver(4, 4, 3, 2)
	falling.mustOver(5, 4, 3, 2, 1)

	mixed := with(t, 9, 7, 5, latest, 5, 0, 7, 5)
	mixed.mustOver(0)
	mixed.mustOver(1, 5)
	mixed.mustOver(5, 5)
	mixed.mustOver(6, 5, 2, 4, 7)
	mixed.mustOver(7, 5, 2, 4, 7)
	mixed.mustOver(8, 5, 2, 4, 7, 1, 6)
	mixed.mustOver(latest, 5, 2, 4, 7, 1, 6)
	mixed.mustOver(latest+1, 5, 2, 4, 7, 1, 6, 3)
	mixed.must(mixed.drop(4), api.OK)
	mixed.mustAdd("h", 5, 8)
	mixed.mustOver(full, 5, 2, 7, 8, 1, 6, 3)
}

// Of one tick all stand by rising numbers, however many there are.
func TestOverOfManyAtOneTick(t *testing.T) {
	x, _ := New[int](most)
	var want []uint64
	for i := range most {
		id, _ := x.Add(i, 3)
		want = append(want, id)
	}
	if l := slices.Collect(x.Over(4)); !slices.Equal(l, want) {
		t.Errorf("Over: %d", l)
	}
	if l := slices.Collect(x.Over(3)); len(l) != 0 {
		t.Errorf("Over: %d", l)
	}
}

// All of as many as may be, due in an order of their own.
func TestFullTableInAnyOrder(t *testing.T) {
	for seed := range int64(3) {
		rnd := rand.New(rand.NewSource(seed))
		p := begin[int](t, most)
		for i := range most {
			due := uint64(rnd.Intn(20))
			p.table.Add(i, due)
			p.record.add(i, due)
		}
		p.mustBeAsRecord("full")
		for range most / 2 {
			id := 1 + uint64(rnd.Intn(most))
			p.must(p.table.Drop(id), p.record.drop(id))
		}
		p.mustBeAsRecord("half")
		p.apart().mustNotAdd(0, latest+1, api.ErrArg)
	}
}

func TestAllAndOverLeftEarly(t *testing.T) {
	p := with(t, 6, 4, 3, 4, 1, 2)
	want := []uint64{1, 2, 3, 4, 5}
	late := []uint64{4, 5, 2, 1, 3}
	all, over := p.table.All(), p.table.Over(5)
	for n := 1; n <= 5; n++ {
		var l, m []uint64
		all(func(id uint64, _ string) bool {
			l = append(l, id)
			return len(l) < n
		})
		over(func(id uint64) bool {
			m = append(m, id)
			return len(m) < n
		})
		if !slices.Equal(l, want[:n]) || !slices.Equal(m, late[:n]) {
			t.Errorf("left behind %d: %d, %d", n, l, m)
		}
		if !slices.Equal(slices.Collect(over), late) || len(items(all)) != 5 {
			t.Error("gone through anew")
		}
	}
	p.mustBeAsRecord("left early")
}

// What is done to a table while it is gone through isn't told, and going through it ends.
func TestAllAndOverTellWhatWasThere(t *testing.T) {
	p := with(t, 9, 4, 3, 4)
	all, over := p.table.All(), p.table.Over(5)
	var l []item[string]
	for id, x := range all {
		p.must(p.drop(id), api.OK)
		p.mustAdd("new", 0, id+3)
		l = append(l, item[string]{id, x})
	}
	want := []item[string]{{1, "1"}, {2, "2"}, {3, "3"}}
	if !slices.Equal(l, want) || !slices.Equal(items(all), want) {
		t.Errorf("All: %v", l)
	}
	if l := slices.Collect(over); !slices.Equal(l, []uint64{2, 1, 3}) {
		t.Errorf("Over: %d", l)
	}
	p.mustTell(6, 4, 5, 6)
	var m []uint64
	for id := range p.table.Over(1) {
		p.must(p.drop(id), api.OK)
		m = append(m, id)
	}
	if !slices.Equal(m, []uint64{4, 5, 6}) {
		t.Errorf("Over: %d", m)
	}
	p.mustTell(6)
}

// Setting doesn't reach what All told ahead of it.
func TestAllIsApartFromSet(t *testing.T) {
	p := with(t, 3, 4, 3)
	all := p.table.All()
	p.must(p.set(1, "x"), api.OK)
	if l := items(all); !slices.Equal(l, []item[string]{{1, "1"}, {2, "2"}}) {
		t.Errorf("All: %v", l)
	}
	p.mustBe(1, "x", 4)
}

// P18.1: Len and Last

func TestLenAndLastBehindEachStep(t *testing.T) {
	p := begin[string](t, 2)
	p.mustTell(0)
	p.mustAdd("a", 5, 1)
	p.mustTell(1, 1)
	p.mustNotAdd("b", latest+1, api.ErrArg)
	p.mustTell(1, 1)
	p.mustAdd("b", 4, 2)
	p.mustTell(2, 1, 2)
	p.mustNotAdd("c", 4, api.ErrFull)
	p.mustTell(2, 1, 2)
	p.must(p.set(1, "x"), api.OK)
	p.mustTell(2, 1, 2)
	p.must(p.drop(2), api.OK)
	p.mustTell(2, 1)
	p.must(p.drop(2), api.ErrNone)
	p.must(p.set(2, "x"), api.ErrNone)
	p.mustTell(2, 1)
	p.mustAdd("c", 4, 3)
	p.mustTell(3, 1, 3)
}

// P18.1: Copy

func TestCopyOfAnEmptyTable(t *testing.T) {
	p := begin[string](t, 1)
	q := p.apart()
	q.mustAdd("a", 3, 1)
	p.mustTell(0)
	p.mustAdd("b", 4, 1)
	q.mustNotAdd("c", 5, api.ErrFull)
	p.mustNotAdd("c", 5, api.ErrFull)
	q.mustBe(1, "a", 3)
	p.mustBe(1, "b", 4)
}

func TestCopyOfAFullTable(t *testing.T) {
	p := with(t, 3, 5, 4, 5)
	q := p.apart()
	q.mustNotAdd("x", 1, api.ErrFull)
	q.must(q.set(1, "q"), api.OK)
	q.must(q.drop(2), api.OK)
	p.mustBe(1, "1", 5)
	p.mustTell(3, 1, 2, 3)
	q.mustAdd("y", 1, 4)
	p.mustTell(3, 1, 2, 3)
	p.must(p.drop(3), api.OK)
	p.must(p.set(1, "p"), api.OK)
	p.mustAdd("z", 2, 4)
	q.mustTell(4, 1, 3, 4)
	q.mustBe(1, "q", 5)
	q.mustBe(4, "y", 1)
	p.mustTell(4, 1, 2, 4)
	p.mustBe(1, "p", 5)
	p.mustBe(4, "z", 2)
	q.mustOver(full, 4, 1, 3)
	p.mustOver(full, 4, 2, 1)
}

// The last number goes along, also where all were dropped.
func TestCopyKeepsTheLastNumber(t *testing.T) {
	p := with(t, 3, 5, 4)
	p.must(p.drop(1), api.OK)
	p.must(p.drop(2), api.OK)
	q := p.apart()
	q.mustTell(2)
	q.mustAdd("a", 1, 3)
	p.mustTell(2)
	p.mustAdd("b", 1, 3)
	q.mustBe(3, "a", 1)
}

// P18.1: tables of things of all kinds

// place is a plain thing of several parts.
type place struct {
	x, y int
	name string
}

// mustKeep takes a table of a kind of things through all calls; the things are four.
func mustKeep[T comparable](t *testing.T, l [4]T) {
	t.Helper()
	p := begin[T](t, 3)
	p.mustNotBe(l[0], 0, 1)
	p.mustAdd(l[0], 6, 1)
	p.mustAdd(l[1], 5, 2)
	p.mustAdd(l[2], 6, 3)
	p.mustNotAdd(l[3], 5, api.ErrFull)
	p.must(p.set(2, l[3]), api.OK)
	p.mustBe(1, l[0], 6)
	p.mustBe(2, l[3], 5)
	p.mustOver(7, 2, 1, 3)
	q := p.apart()
	q.must(q.drop(1), api.OK)
	q.mustAdd(l[1], 0, 4)
	q.mustTell(4, 2, 3, 4)
	p.mustTell(3, 1, 2, 3)
	p.must(p.set(3, *new(T)), api.OK)
	p.mustBe(3, *new(T), 6)
	q.mustBe(3, l[2], 6)
	q.mustNotBe(l[0], 0, 1, 5)
}

func TestTablesOfAllKinds(t *testing.T) {
	mustKeep(t, [4]string{"a", "", "b", "a"})
	mustKeep(t, [4]int{0, -1, math.MaxInt, math.MinInt})
	mustKeep(t, [4]uint64{0, full, 1, full})
	mustKeep(t, [4]byte{0, 255, 1, 1})
	mustKeep(t, [4]bool{true, false, true, false})
	mustKeep(t, [4]float64{0, 0.5, math.Inf(1), -1})
	mustKeep(t, [4]place{{1, 2, "a"}, {}, {0, 0, "b"}, {1, 2, "a"}})
	mustKeep(t, [4]*place{{1, 2, "a"}, nil, {0, 0, "b"}, {1, 2, "a"}})
	mustKeep(t, [4][32]byte{{1}, {}, {31: 9}, {1}})
	mustKeep(t, [4]any{1, nil, "b", place{}})
	mustKeep(t, [4]error{api.ErrArg, nil, api.OK, api.ErrArg})
	mustKeep(t, [4]struct{}{})
}

// P18.2: what is handed in isn't changed: the things themselves are kept

func TestThingsAreKept(t *testing.T) {
	x, _ := New[*place](3)
	a, b := &place{1, 2, "a"}, &place{3, 4, "b"}
	x.Add(a, 5)
	x.Add(b, 4)
	c := x.Copy()
	for _, table := range []*Table[*place]{x, c} {
		if y, _, _ := table.Get(1); y != a {
			t.Error("Get: another one")
		}
		if l := items(table.All()); !slices.Equal(l, []item[*place]{{1, a}, {2, b}}) {
			t.Error("All: others")
		}
	}
	for range x.Over(9) {
	}
	x.Set(1, b)
	x.Drop(2)
	if *a != (place{1, 2, "a"}) || *b != (place{3, 4, "b"}) {
		t.Errorf("things: %v, %v", *a, *b)
	}
	if y, _, _ := c.Get(1); y != a {
		t.Error("Copy: another one")
	}
	a.x = 7
	if y, _, _ := c.Get(1); y.x != 7 {
		t.Error("not the thing itself")
	}
}

func TestListsAreKept(t *testing.T) {
	x, _ := New[[]int](3)
	room := []int{1, 2, 3, 4}
	x.Add(room[:2], 5)
	x.Add(nil, 5)
	x.Add(room[2:3], 4)
	c := x.Copy()
	x.Drop(2)
	x.Set(3, room[:1])
	if !slices.Equal(room, []int{1, 2, 3, 4}) {
		t.Errorf("what was handed in: %d", room)
	}
	if y, due, ok := x.Get(1); !slices.Equal(y, []int{1, 2}) || &y[0] != &room[0] || due != 5 || !ok {
		t.Errorf("Get: %d, %d, %t", y, due, ok)
	}
	if y, due, ok := c.Get(2); y != nil || due != 5 || !ok {
		t.Errorf("Get: %d, %d, %t", y, due, ok)
	}
	if y, due, ok := x.Get(2); y != nil || due != 0 || ok {
		t.Errorf("Get: %d, %d, %t", y, due, ok)
	}
	if y, _, _ := c.Get(3); !slices.Equal(y, []int{3}) {
		t.Errorf("Get: %d", y)
	}
}

// Things that are structs are kept as they were when they were handed in.
func TestStructsAreKeptAsTheyWere(t *testing.T) {
	p := begin[place](t, 3)
	a := place{1, 2, "a"}
	p.mustAdd(a, 5, 1)
	a.x = 9
	p.mustBe(1, place{1, 2, "a"}, 5)
	y, _, _ := p.table.Get(1)
	y.name = "b"
	p.mustBe(1, place{1, 2, "a"}, 5)
	for _, z := range p.table.All() {
		z.y = 8
	}
	p.mustBe(1, place{1, 2, "a"}, 5)
}

// P18.2: no number is given twice

func TestNoNumberTwice(t *testing.T) {
	p := begin[int](t, 1)
	for i := range uint64(100) {
		p.mustAdd(7, 0, i+1)
		p.mustNotAdd(8, 0, api.ErrFull)
		p.must(p.drop(i+1), api.OK)
		p.mustTell(i + 1)
	}
}

// mustDropSome drops some of those that are there.
func mustDropSome[T comparable](t *testing.T, x *Table[T], rnd *rand.Rand) {
	t.Helper()
	l := items(x.All())
	for _, i := range rnd.Perm(len(l))[:1+rnd.Intn(len(l))] {
		if e := x.Drop(l[i].id); e != api.OK {
			t.Fatalf("Drop(%d): %d", l[i].id, int(e))
		}
	}
}

// A new number is above all others, whichever was dropped.
func TestNumbersRiseInLongRows(t *testing.T) {
	for seed := range int64(10) {
		rnd := rand.New(rand.NewSource(seed))
		x, _ := New[int](1 + rnd.Intn(most))
		last := uint64(0)
		for i := range 3000 {
			id, e := x.Add(i, uint64(rnd.Intn(9)))
			switch {
			case e == api.OK && id != last+1:
				t.Fatalf("Add: %d behind %d", id, last)
			case e == api.OK:
				last = id
			case e != api.ErrFull || id != 0:
				t.Fatalf("Add: %d, %d", id, int(e))
			default:
				mustDropSome(t, x, rnd)
			}
			if x.Last() != last {
				t.Fatalf("Last: %d, want %d", x.Last(), last)
			}
			for range rnd.Intn(3) {
				x.Drop(last - uint64(rnd.Intn(4))) // mostly the last one, or one just ahead of it
			}
		}
		if last < 1000 {
			t.Errorf("seed %d: only %d were given", seed, last)
		}
	}
}

// P18.1: a table that isn't there

func mustBeNil[T comparable](t *testing.T, thing T) {
	t.Helper()
	var x *Table[T]
	for _, n := range append(ticks(), wrongTicks()...) {
		if id, e := x.Add(thing, n); id != 0 || e != api.ErrArg {
			t.Errorf("Add: %d, %d", id, int(e))
		}
		if y, due, ok := x.Get(n); y != *new(T) || due != 0 || ok {
			t.Errorf("Get: %v, %d, %t", y, due, ok)
		}
		if set, drop := x.Set(n, thing), x.Drop(n); set != api.ErrArg || drop != api.ErrArg {
			t.Errorf("Set: %d, Drop: %d", int(set), int(drop))
		}
		for id := range uint64(3) {
			if x.Late(id, n) {
				t.Errorf("Late(%d, %d)", id, n)
			}
		}
		for id := range x.Over(n) {
			t.Errorf("Over(%d): %d", n, id)
		}
	}
	for id, y := range x.All() {
		t.Errorf("All: %d, %v", id, y)
	}
	if n, last, c := x.Len(), x.Last(), x.Copy(); n != 0 || last != 0 || c != nil {
		t.Errorf("Len: %d, Last: %d, Copy: %v", n, last, c)
	}
}

func TestNilTable(t *testing.T) {
	mustBeNil(t, "a")
	mustBeNil(t, 7)
	mustBeNil(t, place{1, 2, "a"})
	mustBeNil(t, &place{1, 2, "a"})
	mustBeNil[any](t, 1)
}

// P18.1, P18.2: rows

// Asking changes nothing.
func TestAskingChangesNothing(t *testing.T) {
	for _, p := range []*pair[string]{with(t, 2), with(t, 2, 5), with(t, 3, 7, 5, 7)} {
		for range 2 {
			p.mustBeAsRecord("asked")
		}
		last := p.table.Last()
		if p.table.Len() < p.record.most {
			p.mustAdd("x", 1, last+1)
		}
	}
}

// step tells a pair anything: a thing more, another thing, or that one goes.
func (p *pair[T]) step(rnd *rand.Rand, thing func() T) {
	p.t.Helper()
	last := p.table.Last()
	id := last - uint64(rnd.Intn(6)) // mostly one that was given, and else one below 0, that goes round
	switch rnd.Intn(15) {
	case 0:
		p.add(thing(), wrongTicks()[rnd.Intn(7)])
	case 1:
		p.add(thing(), ticks()[rnd.Intn(8)])
	case 2, 3, 4, 5:
		p.add(thing(), uint64(rnd.Intn(5)))
	case 6:
		p.set(id, thing())
	case 7:
		p.set(last+uint64(rnd.Intn(3)), thing())
	case 8:
		p.drop(last + uint64(rnd.Intn(3)))
	case 9:
		p.drop(uint64(rnd.Intn(int(last) + 2)))
	case 10:
		p.drop(id)
	default:
		for _, id := range p.record.numbers() {
			if rnd.Intn(3) > 0 {
				p.drop(id)
			}
		}
	}
}

// Behind each step all is held against the record.
func TestLongRows(t *testing.T) {
	for seed := range int64(40) {
		rnd := rand.New(rand.NewSource(seed))
		p := begin[string](t, 1+rnd.Intn(8))
		for n := range 160 {
			p.step(rnd, func() string { return text(n) })
		}
		if p.table.Last() < 10 {
			t.Errorf("seed %d: only %d were given", seed, p.table.Last())
		}
	}
}

// Of two that are apart each is told its own row.
func TestLongRowsOfTwo(t *testing.T) {
	for seed := range int64(20) {
		rnd := rand.New(rand.NewSource(100 + seed))
		p := begin[place](t, 1+rnd.Intn(8))
		thing := func() place { return place{rnd.Intn(9), rnd.Intn(9), "t"} }
		for range rnd.Intn(20) {
			p.step(rnd, thing)
		}
		q := p.apart()
		for range 60 {
			one, other := p, q
			if rnd.Intn(2) == 0 {
				one, other = q, p
			}
			one.step(rnd, thing)
			other.mustBeAsRecord("the other one")
		}
	}
}

// All rows of five steps.
func TestAllShortRows(t *testing.T) {
	steps := []func(p *pair[int]){
		func(p *pair[int]) { p.add(1, 0) },
		func(p *pair[int]) { p.add(2, 1) },
		func(p *pair[int]) { p.add(3, latest+1) },
		func(p *pair[int]) { p.set(1, 4) },
		func(p *pair[int]) { p.drop(1) },
		func(p *pair[int]) { p.drop(2) },
		func(p *pair[int]) { p.drop(p.table.Last()) },
	}
	var goOn func(p *pair[int], left int)
	goOn = func(p *pair[int], left int) {
		for _, s := range steps {
			q := &pair[int]{t: t, table: p.table.Copy(), record: p.record}
			q.record.taken = slices.Clone(p.record.taken)
			if s(q); left > 1 {
				goOn(q, left-1)
			}
		}
	}
	goOn(begin[int](t, 2), 5)
	goOn(begin[int](t, 1), 4)
}
