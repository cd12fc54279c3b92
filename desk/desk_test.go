package desk

import (
	"bytes"
	"fmt"
	"math"
	"math/rand"
	"slices"
	"strings"
	"testing"

	"pontage/api"
)

// P21.1: the chapter's example, and New

func TestExample(t *testing.T) {
	d, e := New(1)
	if e != api.OK {
		t.Fatal(int(e))
	}
	if d.Put(Usual, []byte("a")) != api.OK || d.Put(Urgent, []byte("b")) != api.OK {
		t.Error("Put")
	}
	if b, lane, ok := d.Take(); string(b) != "b" || lane != Urgent || !ok {
		t.Errorf("Take: %q, %d, %t", b, lane, ok)
	}
	if b, lane, ok := d.Take(); string(b) != "a" || lane != Usual || !ok {
		t.Errorf("Take: %q, %d, %t", b, lane, ok)
	}
	if b, lane, ok := d.Take(); b != nil || lane != 0 || ok {
		t.Errorf("Take: %q, %d, %t", b, lane, ok)
	}
}

func TestNumbers(t *testing.T) {
	if l := []int{Urgent, Usual, Idle, Lanes, Patience}; !slices.Equal(l, []int{0, 1, 2, 3, 4}) {
		t.Error(l)
	}
}

func TestNewOfRightRooms(t *testing.T) {
	for room := 1; room <= roomiest; room++ {
		p := begin(t, room)
		p.mustHave(0, 0, 0)
		p.mustBeEmpty()
		p.mustPut(2, 0, 1)
		p.mustHave(1, 1, 1)
	}
}

func TestNewOfWrongRooms(t *testing.T) {
	for _, n := range []int{0, -1, -2, -roomiest, roomiest + 1, roomiest + 2, 512, 1 << 16, 1<<16 + 1, 1<<32 + 1, math.MaxInt32, math.MinInt32, math.MaxInt - 1, math.MaxInt, math.MinInt + 1, math.MinInt} {
		if d, e := New(n); d != nil || e != api.ErrArg {
			t.Errorf("New(%d): %v, %d", n, d, int(e))
		}
	}
}

func TestNewOnesAreApart(t *testing.T) {
	p, q := begin(t, 1), begin(t, 1)
	p.mustPut(0, 1)
	q.mustHave(0, 0, 0)
	q.mustPut(0, 2)
	p.close()
	q.mustPut(1)
	q.must(q.more(2), api.ErrFull)
	p.mustTake("01")
	p.mustBeEmpty()
	q.mustTake("012")
	q.mustBeEmpty()
}

// P21.1: Put

func TestPutOnEachLane(t *testing.T) {
	for lane := range 3 {
		p := begin(t, 2)
		p.mustPut(lane)
		want := []int{0, 0, 0}
		want[lane] = 1
		p.mustHave(want...)
		p.mustTake(fmt.Sprint(lane))
		p.mustBeEmpty()
	}
}

func TestPutOnNoLane(t *testing.T) {
	p := with(t, 3, 1, 2, 3)
	for _, lane := range noLanes() {
		p.must(p.more(lane), api.ErrArg)
		p.must(p.put(lane, ""), api.ErrArg)
		if n := p.desk.Len(lane); n != 0 {
			t.Errorf("Len(%d): %d", lane, n)
		}
	}
	p.mustHave(1, 2, 3)
	p.mustTake("011222")
	p.mustBeEmpty()
}

// A message of no byte is one too.
func TestPutOfNothing(t *testing.T) {
	for lane := range 3 {
		p := begin(t, 3)
		p.must(p.put(lane, ""), api.OK)
		p.must(p.desk.Put(lane, nil), p.record.put(lane, ""))
		p.must(p.desk.Put(lane, make([]byte, 0, 9)), p.record.put(lane, ""))
		p.mustBeAsRecord("Put of nothing")
		p.must(p.desk.Put(lane, nil), api.ErrFull)
		for range 3 {
			if b, from, ok := p.take(); b != "" || from != lane || !ok {
				t.Errorf("Take: %q, %d, %t", b, from, ok)
			}
		}
		p.mustBeEmpty()
	}
}

func TestPutOfAnyLength(t *testing.T) {
	for lane := range 3 {
		p := begin(t, 9)
		for _, n := range []int{1, 2, 100, longest - 1, longest} {
			p.must(p.put(lane, strings.Repeat("a", n)), api.OK)
		}
		for _, n := range []int{longest + 1, longest + 2, 2 * longest, 1 << 16, 1<<16 + 1} {
			p.must(p.put(lane, strings.Repeat("b", n)), api.ErrLong)
		}
		p.must(p.put(lane, "c"), api.OK)
		p.mustTake(strings.Repeat(fmt.Sprint(lane), 6))
		p.mustBeEmpty()
	}
}

// Lane by lane, in any order: each one is filled up, and the others have room still, as far as they weren't.
func TestRoomOfEachLane(t *testing.T) {
	for _, room := range []int{1, 2, 3, 10, roomiest - 1, roomiest} {
		for _, lanes := range [][]int{{0, 1, 2}, {2, 1, 0}, {1, 2, 0}} {
			p := begin(t, room)
			for i, lane := range lanes {
				for range room {
					p.must(p.more(lane), api.OK)
				}
				p.must(p.more(lane), api.ErrFull)
				for _, other := range lanes[:i] {
					p.must(p.more(other), api.ErrFull)
				}
			}
			p.mustHave(room, room, room)
			p.all(3 * room)
			p.mustBeEmpty()
		}
	}
}

// Behind a take there is room for one more in the lane that was taken from, and in no other one.
func TestRoomBehindTake(t *testing.T) {
	for _, room := range []int{1, 2, 3, 7} {
		p := with(t, room, room, room, room)
		for range 40 {
			_, taken, _ := p.take()
			for lane := range 3 {
				if lane != taken {
					p.must(p.more(lane), api.ErrFull)
				}
			}
			p.must(p.more(taken), api.OK)
			p.must(p.more(taken), api.ErrFull)
		}
		p.all(3 * room)
		p.mustPut(0, 1, 2)
	}
}

// R2: of two errors, and of more, the one that the chapter names first.
func TestOrderOfErrors(t *testing.T) {
	long := strings.Repeat("x", longest+1)
	full := with(t, 2, 2, 2, 2)
	closed := with(t, 2, 1, 1, 1)
	closed.close()
	both := with(t, 2, 2, 2, 2)
	both.close()
	for range 2 {
		for _, lane := range noLanes() {
			full.must(full.put(lane, "x"), api.ErrArg)
			full.must(full.put(lane, long), api.ErrArg)
			closed.must(closed.put(lane, "x"), api.ErrArg)
			closed.must(closed.put(lane, long), api.ErrArg)
			both.must(both.put(lane, "x"), api.ErrArg)
			both.must(both.put(lane, long), api.ErrArg)
		}
		for lane := range 3 {
			full.must(full.put(lane, long), api.ErrLong)
			full.must(full.put(lane, "x"), api.ErrFull)
			closed.must(closed.put(lane, "x"), api.ErrState)
			closed.must(closed.put(lane, long), api.ErrState)
			both.must(both.put(lane, "x"), api.ErrState)
			both.must(both.put(lane, long), api.ErrState)
		}
	}
	full.mustTake("001122")
	full.mustBeEmpty()
	closed.mustTake("012")
	closed.mustBeEmpty()
	both.mustTake("001122")
	both.mustBeEmpty()
}

// wrongly puts what is refused, in each way that there is just now.
func (p *pair) wrongly() {
	p.t.Helper()
	long := strings.Repeat("x", longest+1)
	for _, lane := range []int{-1, 3, math.MinInt, math.MaxInt} {
		p.must(p.put(lane, "wrong"), api.ErrArg)
		p.must(p.put(lane, long), api.ErrArg)
	}
	for lane, n := range p.record.had() {
		if e := p.put(lane, long); e == api.OK {
			p.t.Error("what is too long was put")
		}
		if p.record.closed || n == p.record.room {
			p.put(lane, "wrong")
		}
	}
}

// R3: what is refused changes no later answer, wherever it comes.
func TestRefusedPutsChangeNothing(t *testing.T) {
	p := with(t, 9, 9, 3, 3)
	order := "000012000120012"
	for i := range order {
		p.wrongly()
		p.mustTake(order[i : i+1])
		if i == 10 {
			p.close()
		}
	}
	p.wrongly()
	p.mustBeEmpty()
}

// P21.1: Close

func TestPutBehindClose(t *testing.T) {
	for lane := range 3 {
		for n := range 4 {
			p := begin(t, 3)
			for range n {
				p.mustPut(lane)
			}
			p.close()
			for other := range 3 {
				p.must(p.more(other), api.ErrState)
				p.must(p.put(other, ""), api.ErrState)
			}
			p.mustTake(strings.Repeat(fmt.Sprint(lane), n))
			p.must(p.more(lane), api.ErrState) // also where there is room again
			p.mustBeEmpty()
		}
	}
}

func TestCloseTwice(t *testing.T) {
	p := with(t, 9, 2, 1, 1)
	for range 3 {
		p.close()
	}
	p.must(p.more(0), api.ErrState)
	p.mustTake("0")
	p.close()
	p.mustTake("012")
	p.close()
	p.must(p.more(2), api.ErrState)
	p.mustBeEmpty()
}

func TestCloseOfAnEmptyOne(t *testing.T) {
	p := begin(t, 3)
	p.close()
	p.mustBeEmpty()
	p.close()
	p.mustBeEmpty()
	for lane := range 3 {
		p.must(p.more(lane), api.ErrState)
	}
	p.mustBeEmpty()
}

// What is there is taken as ever, also lanes that were passed over ahead of the closing.
func TestTakeBehindClose(t *testing.T) {
	order := "000012000120012"
	for i := range len(order) + 1 {
		p := with(t, 9, 9, 3, 3)
		p.mustTake(order[:i])
		p.close()
		p.mustTake(order[i:])
		p.mustBeEmpty()
	}
}

func TestAllBehindClose(t *testing.T) {
	order := "000012000120012"
	for i := range len(order) + 1 {
		p := with(t, 9, 9, 3, 3)
		p.mustTake(order[:i])
		p.close()
		if got := p.all(-1); got != order[i:] {
			t.Errorf("All behind %d: %s, want %s", i, got, order[i:])
		}
		p.mustBeEmpty()
	}
}

// P21.1: Take, and which one is next

func TestTakeOfAnEmptyOne(t *testing.T) {
	p := begin(t, 3)
	p.mustBeEmpty()
	p.mustPut(2)
	p.mustTake("2")
	p.mustBeEmpty() // nor is the last one's lane told
	p.mustPut(1)
	p.mustTake("1")
	p.mustBeEmpty()
}

// Of lanes with so many each, by hand, whichever lane was put to first.
func TestOrder(t *testing.T) {
	for _, c := range []struct {
		urgent, usual, idle int
		order               string
	}{
		{1, 0, 0, "0"},
		{9, 0, 0, "000000000"},
		{0, 9, 0, "111111111"},
		{0, 0, 9, "222222222"},
		{1, 1, 0, "01"},
		{1, 0, 1, "02"},
		{0, 1, 1, "12"},
		{1, 1, 1, "012"},
		{3, 1, 0, "0001"},   // one time less than Patience
		{4, 1, 0, "00001"},  // just so often
		{5, 1, 0, "000010"}, // and one more
		{3, 2, 0, "00011"},
		{9, 1, 0, "0000100000"},  // and of none nothing is counted
		{9, 2, 0, "00001000010"}, // nobody is taken twice in a row for it
		{9, 0, 2, "00002000020"}, // a lane in between that has none
		{9, 9, 0, "000010000101111111"},
		{0, 5, 1, "111121"},
		{0, 9, 2, "11112111121"},
		{3, 5, 1, "000121111"}, // passed over for two lanes
		{2, 5, 1, "00112111"},
		{4, 4, 1, "000012111"}, // both at once: the lower one, and then the other one, one more time passed over
		{5, 1, 1, "0000120"},
		{9, 1, 1, "00001200000"},
		{9, 3, 3, "000012000120012"},
		{9, 9, 9, "000012000120011211112122222"},
	} {
		p := with(t, 9, c.urgent, c.usual, c.idle)
		p.mustTake(c.order)
		p.mustBeEmpty()
		q := begin(t, 9)
		for lane, n := range []int{c.idle, c.usual, c.urgent} {
			for range n {
				q.mustPut(2 - lane)
			}
		}
		q.mustTake(c.order)
		q.mustBeEmpty()
	}
}

// Of all desks of few messages, as the record has it.
func TestOrderOfAllSmallOnes(t *testing.T) {
	for urgent := range 13 {
		for usual := range 8 {
			for idle := range 8 {
				p := with(t, 20, urgent, usual, idle)
				for range urgent + usual + idle {
					p.take()
				}
				p.mustBeEmpty()
			}
		}
	}
}

// What was counted ahead of a lane's emptying isn't counted for those that it has later.
func TestPassedOverEmptiedAndSomeAgain(t *testing.T) {
	for n := range 5 {
		p := with(t, 9, n, 0, 1)
		p.mustTake(strings.Repeat("0", n) + "2")
		p.mustPut(0, 0, 0, 0, 0, 0, 2)
		p.mustTake("0000200")
		p.mustPut(2, 2, 1, 1, 1, 1, 1)
		p.mustTake("1111212")
		p.mustBeEmpty()
	}
}

// Takes from others count from when a lane has some.
func TestTakesFromOthersAheadOfThePut(t *testing.T) {
	for n := range 6 {
		p := with(t, 20, 12, 0, 0)
		p.mustTake(strings.Repeat("0", n))
		p.mustPut(2)
		p.mustTake("00002")
		p.mustPut(1)
		p.mustTake(strings.Repeat("0", min(4, 8-n)) + "1")
		p.mustTake(strings.Repeat("0", 4-min(4, n)))
		p.mustBeEmpty()
	}
}

// The lane is passed over, not whoever is in it: messages put behind that change no count, in it or elsewhere.
func TestPutWhileOthersAreTakenFrom(t *testing.T) {
	p := with(t, 9, 9, 0, 1)
	p.mustTake("00")
	p.mustPut(2)
	p.mustTake("002")
	p.mustTake("00")
	p.mustPut(0, 1)
	p.mustTake("00") // Idle is passed over 4 times, Usual twice
	p.mustPut(1, 2)
	p.mustTake("2")
	p.mustTake("0") // Usual is passed over 4 times, with that for Idle
	p.mustTake("1")
	p.mustTake("012")
	p.mustBeEmpty()
}

// What is taken is put again, so that no lane is ever without: each one is passed over as often as it may be.
func TestLanesThatAreAlwaysFull(t *testing.T) {
	for _, c := range []struct {
		room, urgent, usual, idle int
		order, again              string
		most                      int
	}{
		{1, 1, 1, 1, "000012", "00012", 6},
		{5, 5, 5, 5, "000012", "00012", 6},
		{1, 1, 1, 0, "", "00001", 5},
		{1, 1, 0, 1, "", "00002", 5},
		{1, 0, 1, 1, "", "11112", 5},
		{2, 0, 0, 2, "", "2", 1},
	} {
		p := with(t, c.room, c.urgent, c.usual, c.idle)
		for _, lane := range c.order + strings.Repeat(c.again, 60) {
			p.mustTake(string(lane))
			p.mustPut(int(lane - '0'))
		}
		if p.most != c.most {
			t.Errorf("%v: somebody waited for %d takes", c, p.most)
		}
	}
}

// P21.1: Len

// It is checked behind each call of a pair, and changes nothing itself.
func TestLen(t *testing.T) {
	p := with(t, 4, 3, 1, 2)
	for range 3 {
		p.mustHave(3, 1, 2)
		for _, lane := range noLanes() {
			if n := p.desk.Len(lane); n != 0 {
				t.Errorf("Len(%d): %d", lane, n)
			}
		}
	}
	p.mustTake("00")
	p.mustHave(1, 1, 2)
	p.must(p.more(1), api.OK)
	p.mustHave(1, 2, 2)
	p.close()
	p.mustHave(1, 2, 2)
	p.mustTake("01")
	p.mustHave(0, 1, 2)
	if got := p.all(2); got != "21" {
		t.Errorf("All: %s", got)
	}
	p.mustHave(0, 0, 1)
	p.mustTake("2")
	p.mustBeEmpty()
}

// P21.1: All

// Told false at each one there is, by hand, and then again; and never.
func TestAll(t *testing.T) {
	order := "000012000120012"
	for most := 1; most <= len(order)+1; most++ {
		p := with(t, 9, 9, 3, 3)
		for left := order; left != ""; {
			want := left[:min(most, len(left))]
			if got := p.all(most); got != want {
				t.Errorf("All, up to %d: %s, want %s", most, got, want)
			}
			left = left[len(want):]
		}
		p.mustBeEmpty()
	}
	p := with(t, 9, 9, 3, 3)
	if got := p.all(-1); got != order {
		t.Errorf("All: %s", got)
	}
	p.mustBeEmpty()
}

// What All takes is counted as ever, for takes behind it.
func TestTakeBehindAll(t *testing.T) {
	order := "000012000120012"
	for most := 1; most <= len(order); most++ {
		p := with(t, 9, 9, 3, 3)
		p.all(most)
		p.mustTake(order[most:])
		p.mustBeEmpty()
	}
}

// Whoever is handed one may put more, which are taken too.
func TestPutWithinAll(t *testing.T) {
	d, _ := New(2)
	d.Put(Usual, []byte("a"))
	got, refused := "", 0
	n := d.All(func(lane int, b []byte) bool {
		got += fmt.Sprint(lane, string(b), " ")
		if string(b) == "a" {
			for range 3 {
				d.Put(Idle, []byte("b"))
				if d.Put(Urgent, []byte("c")) == api.ErrFull {
					refused++
				}
			}
		}
		return true
	})
	if n != 5 || got != "1a 0c 0c 2b 2b " || refused != 1 {
		t.Error(n, got, refused)
	}
}

// Or take some by himself, which All doesn't count.
func TestTakeWithinAll(t *testing.T) {
	p := with(t, 9, 6, 1, 1)
	got := ""
	n := p.desk.All(func(lane int, b []byte) bool {
		p.record.take()
		got += fmt.Sprint(lane)
		p.take()
		return true
	})
	if n != 4 || got != "0010" {
		t.Error(n, got)
	}
	p.mustBeEmpty()
	p = with(t, 9, 6, 1, 1)
	n = p.desk.All(func(lane int, b []byte) bool {
		p.record.take()
		got = p.all(3)
		return true
	})
	if n != 2 || got != "200" {
		t.Error(n, got)
	}
	p.mustBeEmpty()
}

func TestCloseWithinAll(t *testing.T) {
	d, _ := New(9)
	for range 3 {
		d.Put(Idle, nil)
	}
	n := d.All(func(lane int, b []byte) bool {
		d.Close()
		if e := d.Put(Urgent, nil); e != api.ErrState {
			t.Errorf("Put: %d", int(e))
		}
		return true
	})
	if n != 3 || d.Len(Idle) != 0 {
		t.Error(n, d.Len(Idle))
	}
}

// R1: for a function that isn't there nothing is taken.
func TestAllWithoutAFunction(t *testing.T) {
	p := with(t, 9, 5, 1, 0)
	for range 9 {
		if n := p.desk.All(nil); n != 0 {
			t.Errorf("All: %d", n)
		}
		p.mustHave(5, 1, 0)
	}
	p.mustTake("000010")
	if n := p.desk.All(nil); n != 0 {
		t.Errorf("All: %d", n)
	}
	p.mustBeEmpty()
}

// Nor does a panic of the function go on: it ends the call, as false does.
func TestAllOfAFunctionThatPanics(t *testing.T) {
	for last := 1; last <= 6; last++ {
		p := with(t, 9, 5, 1, 0)
		handed := 0
		n := p.desk.All(func(lane int, b []byte) bool {
			p.record.take()
			if handed++; handed == last {
				panic("no more")
			}
			return true
		})
		if n != last || handed != last {
			t.Errorf("All: %d, handed on %d, want %d", n, handed, last)
		}
		p.mustTake("000010"[last:])
		p.mustBeEmpty()
	}
}

// P21.1: a desk that isn't there

func TestNilDesk(t *testing.T) {
	var d *Desk
	for range 2 {
		for _, lane := range append(noLanes(), 0, 1, 2) {
			for _, n := range []int{0, 1, longest, longest + 1} {
				if e := d.Put(lane, make([]byte, n)); e != api.ErrArg {
					t.Errorf("Put(%d, %d bytes): %d", lane, n, int(e))
				}
			}
			if n := d.Len(lane); n != 0 {
				t.Errorf("Len(%d): %d", lane, n)
			}
		}
		if b, lane, ok := d.Take(); b != nil || lane != 0 || ok {
			t.Errorf("Take: %q, %d, %t", b, lane, ok)
		}
		if n := d.All(func(int, []byte) bool { t.Error("handed on"); return true }); n != 0 {
			t.Errorf("All: %d", n)
		}
		if n := d.All(nil); n != 0 {
			t.Errorf("All: %d", n)
		}
		d.Close()
	}
}

// R1: one that New didn't make is no desk, but answers.
func TestWhatIsNoDesk(t *testing.T) {
	d := &Desk{}
	for range 2 {
		for _, lane := range append(noLanes(), 0, 1, 2) {
			if e := d.Put(lane, nil); e == api.OK || d.Len(lane) != 0 {
				t.Errorf("Put(%d): %d", lane, int(e))
			}
		}
		if b, lane, ok := d.Take(); b != nil || lane != 0 || ok {
			t.Errorf("Take: %q, %d, %t", b, lane, ok)
		}
		if n := d.All(func(int, []byte) bool { t.Error("handed on"); return true }); n != 0 {
			t.Errorf("All: %d", n)
		}
		d.Close()
	}
}

// P21.2, R4: memory

// What is put isn't changed, its spare room neither, and isn't kept.
func TestWhatIsPutIsNeitherChangedNorKept(t *testing.T) {
	for lane := range 3 {
		d, _ := New(3)
		room := []byte("abcdefgh")
		b := room[2:4]
		for range 4 { // the last one is refused
			d.Put(lane, b)
			if string(room) != "abcdefgh" {
				t.Fatalf("Put: %q is left", room)
			}
		}
		copy(room, "xxxxxxxx")
		d.Put(lane, b)
		for range 3 {
			got, _, ok := d.Take()
			if string(got) != "cd" || !ok {
				t.Errorf("Take: %q, %t", got, ok)
			}
			overwrite(got)
			if string(room) != "xxxxxxxx" {
				t.Fatalf("Take: %q is left", room)
			}
		}
	}
}

// overwrite writes into all that somebody has, its spare room too.
func overwrite(b []byte) {
	b = b[:cap(b)]
	for i := range b {
		b[i] = '?'
	}
}

// Answers share nothing with each other, nor with what waits still, though the same was put.
func TestAnswersAreNewMemory(t *testing.T) {
	d, _ := New(9)
	for _, b := range [][]byte{[]byte("the same one"), bytes.Repeat([]byte{'a'}, longest)} {
		for lane := range 3 {
			for range 9 {
				d.Put(lane, b)
			}
		}
		var taken [][]byte
		for range 13 {
			got, _, ok := d.Take()
			if !bytes.Equal(got, b) || !ok {
				t.Errorf("Take: %q, %t", got, ok)
			}
			taken = append(taken, got)
		}
		for _, got := range taken {
			if !bytes.Equal(got, b) {
				t.Errorf("Take: %q behind later ones", got)
			}
			overwrite(got)
		}
		n := d.All(func(lane int, got []byte) bool {
			if !bytes.Equal(got, b) {
				t.Errorf("All: %q", got)
			}
			overwrite(got)
			return true
		})
		if n != 14 {
			t.Errorf("All: %d", n)
		}
	}
}

// What is handed on may be kept, and is written to by nobody else.
func TestWhatIsHandedOnMayBeKept(t *testing.T) {
	p := with(t, 9, 9, 3, 3)
	var kept [][]byte
	var texts []string
	p.desk.All(func(lane int, b []byte) bool {
		kept, texts = append(kept, b), append(texts, string(b))
		return true
	})
	for range 27 {
		p.desk.Put(Urgent, bytes.Repeat([]byte{'z'}, 99))
		p.desk.Put(Idle, bytes.Repeat([]byte{'y'}, 99))
		p.desk.Take()
	}
	for i := range kept {
		if string(kept[i]) != texts[i] {
			t.Errorf("the %d-th one is %q, was %q", i, kept[i], texts[i])
		}
	}
}

// P21.1, P21.2: rows

// step tells a pair anything.
func (p *pair) step(rnd *rand.Rand) {
	p.t.Helper()
	switch n := rnd.Intn(40); {
	case n < 10:
		p.more(Urgent)
	case n < 15:
		p.more(Usual)
	case n < 20:
		p.more(Idle)
	case n < 37:
		p.take()
	case n == 37:
		p.wrongly()
	case n == 38:
		p.all(1 + rnd.Intn(3))
	default:
		p.put(rnd.Intn(5)-1, strings.Repeat("x", rnd.Intn(3)*longest/2+rnd.Intn(2)))
	}
}

// Behind long rows each one that was put was taken once, those of a lane in their order, and nobody waited longer than he may.
func TestLongRows(t *testing.T) {
	rooms := []int{1, 2, 3, 7, 20, 100}
	most := 0
	for seed := range int64(60) {
		rnd := rand.New(rand.NewSource(seed))
		p := begin(t, rooms[seed%6])
		for range 1500 {
			p.step(rnd)
		}
		if seed%2 == 0 {
			p.close()
			for range 50 {
				p.step(rnd)
			}
		}
		p.all(-1)
		p.mustBeEmpty()
		most = max(most, p.most)
	}
	if most != patience+2 { // else the rows are of no use
		t.Errorf("nobody waited for more than %d takes", most)
	}
}

// told is a message as somebody has it who asks for numbers alone.
type told struct{ lane, number int }

// The same without a record: by what was put and what was taken alone.
func TestEachIsTakenOnceInOrder(t *testing.T) {
	for seed := range int64(30) {
		rnd := rand.New(rand.NewSource(1000 + seed))
		d, _ := New(1 + rnd.Intn(30))
		var put, taken [3][]told
		take := func(lane int, b []byte) bool {
			taken[lane] = append(taken[lane], told{int(b[0]), int(b[1])<<8 | int(b[2])})
			return true
		}
		for i := range 4000 {
			lane := rnd.Intn(3)
			if rnd.Intn(2) == 0 {
				if b, from, ok := d.Take(); ok {
					take(from, b)
				}
			} else if d.Put(lane, []byte{byte(lane), byte(i >> 8), byte(i)}) == api.OK {
				put[lane] = append(put[lane], told{lane, i})
			}
		}
		d.All(take)
		for lane := range put {
			if len(put[lane]) < 200 || !slices.Equal(put[lane], taken[lane]) {
				t.Errorf("lane %d: %d put, %d taken", lane, len(put[lane]), len(taken[lane]))
			}
		}
	}
}

// All rows of seven steps behind desks of some messages, up to the last one that is taken then.
func TestAllShortRows(t *testing.T) {
	steps := []func(p *pair){
		func(p *pair) { p.more(Urgent) },
		func(p *pair) { p.more(Usual) },
		func(p *pair) { p.more(Idle) },
		func(p *pair) { p.take() },
	}
	const length = 7
	for _, first := range [][3]int{{0, 0, 0}, {1, 1, 1}, {6, 2, 0}, {7, 1, 1}, {3, 4, 1}, {5, 0, 2}} {
		for row := range 1 << (2 * length) {
			p := with(t, 7, first[0], first[1], first[2])
			for range length {
				steps[row&3](p)
				row >>= 2
			}
			p.all(-1)
		}
	}
}

// The same with a closing somewhere among fewer steps.
func TestAllShortRowsWithAClosing(t *testing.T) {
	steps := []func(p *pair){
		func(p *pair) { p.more(Urgent) },
		func(p *pair) { p.more(Usual) },
		func(p *pair) { p.more(Idle) },
		func(p *pair) { p.take() },
		func(p *pair) { p.all(2) },
		func(p *pair) { p.close() },
	}
	var goOn func(row []int)
	goOn = func(row []int) {
		p := with(t, 2, 2, 1, 1)
		for _, i := range row {
			steps[i](p)
		}
		p.all(-1)
		p.mustBeEmpty()
		for i := range steps {
			if len(row) < 5 {
				goOn(append(row[:len(row):len(row)], i))
			}
		}
	}
	goOn(nil)
}
