package desk

import (
	"fmt"
	"math"
	"slices"
	"strings"
	"testing"

	"pontage/api"
)

const (
	roomiest = 256
	longest  = 4096
	patience = 4
)

// noLanes are numbers that are no lane's.
func noLanes() []int {
	return []int{-1, 3, -2, -3, 4, 5, 7, 8, 255, 256, 257, -255, -256, 1 << 16, math.MaxInt32, math.MinInt32, 1 << 32, 1<<32 + 1, -1 << 32, math.MaxInt - 1, math.MaxInt, math.MinInt, math.MinInt + 1, math.MinInt + 2}
}

// message is one that was put.
type message struct {
	lane int
	text string
}

// round is a take: which lane was taken from, and how many each had ahead of it.
type round struct {
	lane int
	had  [3]int
}

// record is all that wait, in the order in which they were put, and all rounds that ever were.
type record struct {
	room    int
	closed  bool
	waiting []message
	rounds  []round
}

// had answers how many wait in each lane.
func (r *record) had() [3]int {
	var l [3]int
	for _, m := range r.waiting {
		l[m.lane]++
	}
	return l
}

// over answers how often in a row a lane was passed over, by going back through the rounds.
func (r *record) over(lane int) int {
	n := 0
	if r.had()[lane] == 0 {
		return n
	}
	for _, x := range slices.Backward(r.rounds) {
		if x.lane == lane || x.had[lane] == 0 {
			break
		}
		n++
	}
	return n
}

// next answers which lane is taken from next, and -1, if none is.
func (r *record) next() int {
	for lane := range 3 {
		if r.over(lane) >= patience {
			return lane
		}
	}
	for lane, n := range r.had() {
		if n > 0 {
			return lane
		}
	}
	return -1
}

func (r *record) put(lane int, text string) api.Errno {
	switch {
	case lane != 0 && lane != 1 && lane != 2:
		return api.ErrArg
	case r.closed:
		return api.ErrState
	case len(text) > longest:
		return api.ErrLong
	case r.had()[lane] == r.room:
		return api.ErrFull
	}
	r.waiting = append(r.waiting, message{lane, text})
	return api.OK
}

func (r *record) take() (message, bool) {
	lane := r.next()
	if lane < 0 {
		return message{}, false
	}
	r.rounds = append(r.rounds, round{lane, r.had()})
	i := slices.IndexFunc(r.waiting, func(m message) bool { return m.lane == lane })
	m := r.waiting[i]
	r.waiting = slices.Delete(r.waiting, i, i+1)
	return m, true
}

// pair is a desk, and a record that is told the same.
type pair struct {
	t      testing.TB
	desk   *Desk
	record record
	number int    // of the last message that put made
	waits  [3]int // how many takes there were since whoever is at the head of a lane came there
	most   int    // how many there were at most, with that by which he was taken
}

// begin is a pair without messages.
func begin(t testing.TB, room int) *pair {
	t.Helper()
	d, e := New(room)
	if d == nil || e != api.OK {
		t.Fatalf("New(%d): %v, %d", room, d, int(e))
	}
	p := &pair{t: t, desk: d, record: record{room: room}}
	p.mustBeAsRecord("New")
	return p
}

// with is a pair with so many of each lane, the first ones of all three lanes first.
func with(t testing.TB, room int, urgent, usual, idle int) *pair {
	t.Helper()
	p := begin(t, room)
	left := [3]int{urgent, usual, idle}
	for left != [3]int{} {
		for lane := range left {
			if left[lane] > 0 {
				p.more(lane)
				left[lane]--
			}
		}
	}
	return p
}

// mustBeAsRecord checks all that a desk tells without a take.
func (p *pair) mustBeAsRecord(what string) {
	p.t.Helper()
	for lane, want := range p.record.had() {
		if n := p.desk.Len(lane); n != want {
			p.t.Fatalf("%s: Len(%d): %d, want %d", what, lane, n, want)
		}
	}
	for _, lane := range noLanes()[:4] {
		if n := p.desk.Len(lane); n != 0 {
			p.t.Fatalf("%s: Len(%d): %d", what, lane, n)
		}
	}
}

// put tells both the same, and checks what they answer, and all that is told behind that; so do take, close and all.
func (p *pair) put(lane int, text string) api.Errno {
	p.t.Helper()
	what := fmt.Sprintf("Put(%d, %d bytes)", lane, len(text))
	e := p.desk.Put(lane, []byte(text))
	if want := p.record.put(lane, text); e != want {
		p.t.Fatalf("%s: %d, want %d", what, int(e), int(want))
	}
	p.mustBeAsRecord(what)
	return e
}

func (p *pair) take() (string, int, bool) {
	p.t.Helper()
	b, lane, ok := p.desk.Take()
	m, is := p.record.take()
	if string(b) != m.text || lane != m.lane || ok != is || !ok && b != nil {
		p.t.Fatalf("Take: %q, %d, %t; want %q, %d, %t", b, lane, ok, m.text, m.lane, is)
	}
	if ok {
		p.wait(lane)
	}
	p.mustBeAsRecord("Take")
	return string(b), lane, ok
}

func (p *pair) close() {
	p.t.Helper()
	p.desk.Close()
	p.record.closed = true
	p.mustBeAsRecord("Close")
}

// all takes all, up to so many, and answers their lanes.
func (p *pair) all(most int) string {
	p.t.Helper()
	var order strings.Builder
	n := p.desk.All(func(lane int, b []byte) bool {
		m, ok := p.record.take()
		if string(b) != m.text || lane != m.lane || !ok {
			p.t.Fatalf("All: %q, %d; want %q, %d, %t", b, lane, m.text, m.lane, ok)
		}
		fmt.Fprint(&order, lane)
		p.wait(lane)
		p.mustBeAsRecord("within All")
		return order.Len() != most
	})
	if n != order.Len() {
		p.t.Fatalf("All: %d, but %d were handed on", n, order.Len())
	}
	if left := len(p.record.waiting); left > 0 && n != most {
		p.t.Fatalf("All: %d, %d are left", n, left)
	}
	p.mustBeAsRecord("All")
	return order.String()
}

// wait counts a take from a lane, behind it, and checks that nobody waits longer than he may.
func (p *pair) wait(taken int) {
	p.t.Helper()
	last := p.record.rounds[len(p.record.rounds)-1]
	for lane, n := range last.had {
		if n > 0 {
			p.waits[lane]++
			p.most = max(p.most, p.waits[lane])
		}
	}
	p.waits[taken] = 0
	if p.most > patience+2 {
		p.t.Fatalf("somebody waits for %d takes", p.most)
	}
}

// more puts a message unlike all others.
func (p *pair) more(lane int) api.Errno {
	p.t.Helper()
	p.number++
	return p.put(lane, fmt.Sprintf("%d of lane %d", p.number, lane))
}

// must checks an error by hand.
func (p *pair) must(e, want api.Errno) {
	p.t.Helper()
	if e != want {
		p.t.Errorf("%d, want %d", int(e), int(want))
	}
}

// mustPut puts such messages one behind the other, each of which is taken.
func (p *pair) mustPut(lanes ...int) {
	p.t.Helper()
	for _, lane := range lanes {
		p.must(p.more(lane), api.OK)
	}
}

// mustTake checks by hand from which lanes the next ones are taken.
func (p *pair) mustTake(order string) {
	p.t.Helper()
	got := ""
	for range order {
		_, lane, ok := p.take()
		if !ok {
			break
		}
		got += fmt.Sprint(lane)
	}
	if got != order {
		p.t.Errorf("taken from %s, want %s", got, order)
	}
}

// mustBeEmpty checks by hand that there is nothing to be taken, and that it stays so.
func (p *pair) mustBeEmpty() {
	p.t.Helper()
	for range 2 {
		if b, lane, ok := p.desk.Take(); b != nil || lane != 0 || ok {
			p.t.Errorf("Take: %q, %d, %t", b, lane, ok)
		}
		if n := p.desk.All(func(int, []byte) bool { p.t.Error("handed on"); return true }); n != 0 {
			p.t.Errorf("All: %d", n)
		}
	}
	p.mustHave(0, 0, 0)
}

// mustHave checks by hand how many there are.
func (p *pair) mustHave(want ...int) {
	p.t.Helper()
	got := []int{p.desk.Len(0), p.desk.Len(1), p.desk.Len(2)}
	if !slices.Equal(got, want) {
		p.t.Errorf("Len: %d, want %d", got, want)
	}
}
