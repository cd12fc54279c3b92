package octet

import (
	"bytes"
	"math"
	"math/rand"
	"slices"
	"testing"
)

// written answers what a new writer has after do.
func written(do func(w *Writer)) []byte {
	var w Writer
	do(&w)
	return w.Bytes()
}

// edges are counts at the ends of each way to write them, and these ways.
func edges() []struct {
	x     uint64
	bytes []byte
} {
	return []struct {
		x     uint64
		bytes []byte
	}{
		{0, []byte{0}},
		{1, []byte{1}},
		{252, []byte{252}},
		{253, []byte{253, 253, 0}},
		{254, []byte{253, 254, 0}},
		{255, []byte{253, 255, 0}},
		{256, []byte{253, 0, 1}},
		{300, []byte{253, 44, 1}},
		{65535, []byte{253, 255, 255}},
		{65536, []byte{254, 0, 0, 1, 0}},
		{0x12345678, []byte{254, 0x78, 0x56, 0x34, 0x12}},
		{1<<32 - 1, []byte{254, 255, 255, 255, 255}},
		{1 << 32, []byte{255, 0, 0, 0, 0, 1, 0, 0, 0}},
		{0x0123456789abcdef, []byte{255, 0xef, 0xcd, 0xab, 0x89, 0x67, 0x45, 0x23, 0x01}},
		{math.MaxUint64, []byte{255, 255, 255, 255, 255, 255, 255, 255, 255}},
	}
}

// badSizes are those that no number has.
func badSizes() []int {
	return []int{math.MinInt, -8, -4, -2, -1, 0, 3, 5, 6, 7, 9, 16, 256 + 4, 1<<32 + 1, math.MaxInt}
}

// P1.1

func TestZeroWriterHasNothing(t *testing.T) {
	var w Writer
	if len(w.Bytes()) != 0 {
		t.Errorf("Bytes: %v", w.Bytes())
	}
	w.Raw(nil)
	w.Raw([]byte{})
	if len(w.Bytes()) != 0 {
		t.Errorf("Bytes after nothing was put: %v", w.Bytes())
	}
}

func TestPutWritesTheLowestBitsFirst(t *testing.T) {
	for _, c := range []struct {
		x    uint64
		size int
		want []byte
	}{
		{0, 1, []byte{0}},
		{0, 8, make([]byte, 8)},
		{258, 4, []byte{2, 1, 0, 0}},
		{0x1122334455667788, 1, []byte{0x88}},
		{0x1122334455667788, 2, []byte{0x88, 0x77}},
		{0x1122334455667788, 4, []byte{0x88, 0x77, 0x66, 0x55}},
		{0x1122334455667788, 8, []byte{0x88, 0x77, 0x66, 0x55, 0x44, 0x33, 0x22, 0x11}},
		{256, 1, []byte{0}},
		{1 << 16, 2, []byte{0, 0}},
		{1 << 32, 4, []byte{0, 0, 0, 0}},
		{math.MaxUint64, 1, []byte{255}},
		{math.MaxUint64, 8, bytes.Repeat([]byte{255}, 8)},
	} {
		if got := written(func(w *Writer) { w.Put(c.x, c.size) }); !bytes.Equal(got, c.want) {
			t.Errorf("Put(%#x, %d): %v, want %v", c.x, c.size, got, c.want)
		}
	}
}

func TestPutOfAnotherSizePutsNothing(t *testing.T) {
	for _, size := range badSizes() {
		got := written(func(w *Writer) {
			w.Put(7, 1)
			w.Put(math.MaxUint64, size)
			w.Put(9, 1)
		})
		if !bytes.Equal(got, []byte{7, 9}) {
			t.Errorf("Put of size %d: %v", size, got)
		}
	}
}

func TestCountIsWrittenByTheFewestBytes(t *testing.T) {
	for _, c := range edges() {
		if got := written(func(w *Writer) { w.Count(c.x) }); !bytes.Equal(got, c.bytes) {
			t.Errorf("Count(%d): %v, want %v", c.x, got, c.bytes)
		}
		if got := CountSize(c.x); got != len(c.bytes) {
			t.Errorf("CountSize(%d): %d, want %d", c.x, got, len(c.bytes))
		}
	}
}

func TestRawAndCountedAreWrittenOneBehindTheOther(t *testing.T) {
	got := written(func(w *Writer) {
		w.Raw([]byte{9, 8})
		w.Counted([]byte("hi"))
		w.Counted(nil)
		w.Raw(nil)
		w.Raw([]byte{253})
	})
	if want := []byte{9, 8, 2, 'h', 'i', 0, 253}; !bytes.Equal(got, want) {
		t.Errorf("%v, want %v", got, want)
	}
	for _, n := range []int{0, 1, 252, 253, 65535, 65536} {
		b := bytes.Repeat([]byte{'x'}, n)
		got := written(func(w *Writer) { w.Counted(b) })
		want := append(written(func(w *Writer) { w.Count(uint64(n)) }), b...)
		if !bytes.Equal(got, want) {
			t.Errorf("Counted of %d bytes: %d bytes, begins %v", n, len(got), got[:min(9, len(got))])
		}
	}
}

func TestBytesTellsAllAndStops(t *testing.T) {
	var w Writer
	w.Put(1, 1)
	first := w.Bytes()
	w.Put(2, 1)
	if !bytes.Equal(first, []byte{1}) || !bytes.Equal(w.Bytes(), []byte{1, 2}) || !bytes.Equal(w.Bytes(), []byte{1, 2}) {
		t.Errorf("%v, then %v", first, w.Bytes())
	}
}

func TestNilWriterHasNothing(t *testing.T) {
	var w *Writer
	w.Put(1, 8)
	w.Put(1, 3)
	w.Count(math.MaxUint64)
	w.Count(0)
	w.Raw([]byte{1})
	w.Counted([]byte{1, 2})
	if len(w.Bytes()) != 0 {
		t.Errorf("Bytes: %v", w.Bytes())
	}
}

// P1.2

// mustBeWrong checks that a reader tells 0 and nothing, whatever it is asked.
func mustBeWrong(t *testing.T, why string, r *Reader) {
	t.Helper()
	tells := func() bool {
		return r.Wrong() && !r.End() && r.Left() == 0
	}
	ok := tells()
	for _, size := range []int{1, 2, 4, 8, 0, -1} {
		ok = ok && r.Get(size) == 0 && tells()
	}
	for _, n := range []int{0, 1, -1, math.MaxInt, math.MinInt} {
		ok = ok && len(r.Raw(n)) == 0 && tells()
		ok = ok && len(r.Counted(n)) == 0 && tells()
	}
	for _, most := range []uint64{0, 1, math.MaxUint64} {
		ok = ok && r.Count(most) == 0 && tells()
	}
	if !ok {
		t.Errorf("%s: it should be wrong, and tell nothing", why)
	}
}

// mustHave checks that a reader isn't wrong, and has so many bytes left.
func mustHave(t *testing.T, why string, r *Reader, left int) {
	t.Helper()
	if r.Wrong() || r.Left() != left || r.End() != (left == 0) {
		t.Errorf("%s: wrong %v, left %d, end %v; want %d left", why, r.Wrong(), r.Left(), r.End(), left)
	}
}

func TestGetReadsTheLowestBitsFirst(t *testing.T) {
	b := []byte{1, 2, 3, 4, 5, 6, 7, 0x80}
	for size, want := range map[int]uint64{1: 1, 2: 0x0201, 4: 0x04030201, 8: 0x8007060504030201} {
		r := Read(b)
		if got := r.Get(size); got != want {
			t.Errorf("Get(%d): %#x, want %#x", size, got, want)
		}
		mustHave(t, "behind Get", r, 8-size)
	}
	r := Read([]byte{255, 255, 255, 255, 255, 255, 255, 255, 7})
	if got := r.Get(8); got != math.MaxUint64 {
		t.Errorf("Get(8): %#x", got)
	}
	if got := r.Get(1); got != 7 {
		t.Errorf("Get(1): %d", got)
	}
	mustHave(t, "behind all", r, 0)
}

func TestGetOfAnotherSizeIsWrong(t *testing.T) {
	for _, size := range badSizes() {
		r := Read(bytes.Repeat([]byte{5}, 400))
		if got := r.Get(size); got != 0 {
			t.Errorf("Get(%d): %d", size, got)
		}
		mustBeWrong(t, "another size", r)
	}
}

func TestTooFewBytesAreWrong(t *testing.T) {
	for _, size := range []int{1, 2, 4, 8} {
		r := Read(bytes.Repeat([]byte{5}, size-1))
		if got := r.Get(size); got != 0 {
			t.Errorf("Get(%d) of one byte less: %d", size, got)
		}
		mustBeWrong(t, "Get of too few bytes", r)
	}
	for _, c := range edges() {
		for n := range c.bytes {
			r := Read(c.bytes[:n])
			if got := r.Count(math.MaxUint64); got != 0 {
				t.Errorf("Count of %v: %d", c.bytes[:n], got)
			}
			mustBeWrong(t, "Count of too few bytes", r)
		}
	}
	r := Read([]byte{1, 2})
	if got := r.Raw(3); len(got) != 0 {
		t.Errorf("Raw(3) of two bytes: %v", got)
	}
	mustBeWrong(t, "Raw of too few bytes", r)
	r = Read([]byte{3, 1, 2})
	if got := r.Counted(9); len(got) != 0 {
		t.Errorf("Counted of too few bytes: %v", got)
	}
	mustBeWrong(t, "Counted of too few bytes", r)
	r = Read([]byte{255, 255, 255, 255, 255, 255, 255, 255, 127, 1})
	if got := r.Counted(math.MaxInt); len(got) != 0 {
		t.Errorf("Counted of the greatest length: %v", got)
	}
	mustBeWrong(t, "Counted of the greatest length", r)
}

func TestCountReadsAtMostSoMany(t *testing.T) {
	for _, c := range edges() {
		for _, most := range []uint64{c.x, math.MaxUint64, max(c.x, 70000)} {
			r := Read(append(slices.Clone(c.bytes), 17))
			if got := r.Count(most); got != c.x {
				t.Errorf("Count(%d) of %v: %d", most, c.bytes, got)
			}
			mustHave(t, "behind Count", r, 1)
		}
		if c.x == 0 {
			continue
		}
		for _, most := range []uint64{c.x - 1, 0} {
			r := Read(append(slices.Clone(c.bytes), 17))
			if got := r.Count(most); got != 0 {
				t.Errorf("Count(%d) of %v: %d", most, c.bytes, got)
			}
			mustBeWrong(t, "a greater count", r)
		}
	}
}

func TestCountByMoreBytesThanItNeedsIsWrong(t *testing.T) {
	for _, b := range [][]byte{
		{253, 0, 0},
		{253, 1, 0},
		{253, 252, 0},
		{254, 0, 0, 0, 0},
		{254, 252, 0, 0, 0},
		{254, 253, 0, 0, 0},
		{254, 255, 255, 0, 0},
		{255, 0, 0, 0, 0, 0, 0, 0, 0},
		{255, 252, 0, 0, 0, 0, 0, 0, 0},
		{255, 255, 255, 0, 0, 0, 0, 0, 0},
		{255, 0, 0, 1, 0, 0, 0, 0, 0},
		{255, 255, 255, 255, 255, 0, 0, 0, 0},
	} {
		long := append(slices.Clone(b), bytes.Repeat([]byte{1}, 300)...)
		r := Read(long)
		if got := r.Count(math.MaxUint64); got != 0 {
			t.Errorf("Count of %v: %d", b, got)
		}
		mustBeWrong(t, "Count by more bytes than it needs", r)
		r = Read(long)
		if got := r.Counted(math.MaxInt); len(got) != 0 {
			t.Errorf("Counted of %v: %v", b, got)
		}
		mustBeWrong(t, "Counted by more bytes than it needs", r)
	}
}

func TestRawReadsSoMany(t *testing.T) {
	r := Read([]byte{1, 2, 3})
	if got := r.Raw(0); len(got) != 0 {
		t.Errorf("Raw(0): %v", got)
	}
	mustHave(t, "behind Raw(0)", r, 3)
	if got := r.Raw(2); !bytes.Equal(got, []byte{1, 2}) {
		t.Errorf("Raw(2): %v", got)
	}
	mustHave(t, "behind Raw(2)", r, 1)
	if got := r.Raw(1); !bytes.Equal(got, []byte{3}) {
		t.Errorf("Raw(1): %v", got)
	}
	mustHave(t, "behind Raw(1)", r, 0)
	if got := r.Raw(0); len(got) != 0 {
		t.Errorf("Raw(0) at the end: %v", got)
	}
	mustHave(t, "behind Raw(0) at the end", r, 0)
}

func TestRawBelowNoughtIsWrong(t *testing.T) {
	for _, n := range []int{-1, -3, math.MinInt} {
		r := Read([]byte{1, 2, 3})
		if got := r.Raw(n); len(got) != 0 {
			t.Errorf("Raw(%d): %v", n, got)
		}
		mustBeWrong(t, "Raw below 0", r)
	}
}

func TestCountedReadsAtMostSoMany(t *testing.T) {
	for _, most := range []int{2, 3, math.MaxInt} {
		r := Read([]byte{2, 'h', 'i', 7})
		if got := r.Counted(most); string(got) != "hi" {
			t.Errorf("Counted(%d): %q", most, got)
		}
		mustHave(t, "behind Counted", r, 1)
	}
	for _, most := range []int{1, 0, -1, math.MinInt} {
		r := Read([]byte{2, 'h', 'i', 7})
		if got := r.Counted(most); len(got) != 0 {
			t.Errorf("Counted(%d): %q", most, got)
		}
		mustBeWrong(t, "Counted of more", r)
	}
	r := Read([]byte{0, 7})
	if got := r.Counted(0); len(got) != 0 {
		t.Errorf("Counted(0): %v", got)
	}
	mustHave(t, "behind Counted of nothing", r, 1)
	for _, most := range []int{-1, math.MinInt} { // nothing at all is still more than that
		r = Read([]byte{0, 7})
		if got := r.Counted(most); len(got) != 0 {
			t.Errorf("Counted(%d): %v", most, got)
		}
		mustBeWrong(t, "Counted below 0", r)
	}
}

func TestReaderOfNothingIsAtItsEnd(t *testing.T) {
	for _, b := range [][]byte{nil, {}} {
		mustHave(t, "nothing", Read(b), 0)
		r := Read(b)
		if r.Get(1) != 0 {
			t.Error("Get of nothing")
		}
		mustBeWrong(t, "Get of nothing", r)
	}
}

func TestWrongReaderStaysWrong(t *testing.T) {
	r := Read([]byte{1, 2, 3, 4, 5, 6, 7, 8, 9})
	if r.Get(1) != 1 || r.Get(3) != 0 {
		t.Error("Get")
	}
	mustBeWrong(t, "behind a wrong Get", r)
}

func TestNilReaderIsWrong(t *testing.T) {
	mustBeWrong(t, "nil", nil)
}

// P1.3

func TestWhatWasPutIsRead(t *testing.T) {
	rnd := rand.New(rand.NewSource(1))
	for range 300 {
		var w Writer
		var checks []func(r *Reader) bool
		for range rnd.Intn(12) {
			checks = append(checks, putSomething(&w, rnd))
		}
		r := Read(w.Bytes())
		for i, check := range checks {
			if !check(r) {
				t.Fatalf("item %d of %d isn't what was put", i, len(checks))
			}
		}
		mustHave(t, "behind all that was put", r, 0)
	}
}

// putSomething puts a number, a count or bytes, and answers a check that a reader tells just it.
func putSomething(w *Writer, rnd *rand.Rand) func(r *Reader) bool {
	x := rnd.Uint64() >> rnd.Intn(64)
	b := make([]byte, rnd.Intn(600))
	rnd.Read(b)
	switch rnd.Intn(4) {
	case 0:
		size := 1 << rnd.Intn(4)
		w.Put(x, size)
		x = x << (64 - 8*size) >> (64 - 8*size)
		return func(r *Reader) bool { return r.Get(size) == x }
	case 1:
		w.Count(x)
		return func(r *Reader) bool { return r.Count(x) == x }
	case 2:
		w.Raw(b)
		return func(r *Reader) bool { return bytes.Equal(r.Raw(len(b)), b) }
	}
	w.Counted(b)
	return func(r *Reader) bool { return bytes.Equal(r.Counted(len(b)), b) }
}

func TestCountsAreReadAsTheyWerePut(t *testing.T) {
	check := func(x uint64) {
		b := written(func(w *Writer) { w.Count(x) })
		r := Read(b)
		if got := r.Count(x); got != x || !r.End() || CountSize(x) != len(b) {
			t.Errorf("Count of %d, in %v: %d", x, b, got)
		}
	}
	for x := range uint64(70000) {
		check(x)
	}
	for n := range 64 {
		check(1<<n - 1)
		check(1 << n)
		check(1<<n + 1)
	}
}

// A number has one writing alone: whatever is read as a count is what Count writes.
func TestCountHasOneWritingAlone(t *testing.T) {
	check := func(b []byte) {
		r := Read(b)
		x := r.Count(math.MaxUint64)
		again := written(func(w *Writer) { w.Count(x) })
		if r.Wrong() == bytes.Equal(again, b) {
			t.Errorf("Count of %v: %d, wrong %v", b, x, r.Wrong())
		}
	}
	for b := range 253 {
		check([]byte{byte(b)})
	}
	for b := range 1 << 16 {
		check([]byte{253, byte(b), byte(b >> 8)})
	}
	rnd := rand.New(rand.NewSource(2))
	for range 20000 {
		x := rnd.Uint64() >> rnd.Intn(64)
		check(written(func(w *Writer) { w.Put(254, 1); w.Put(x, 4) }))
		check(written(func(w *Writer) { w.Put(255, 1); w.Put(x, 8) }))
	}
}

func TestWriterNeitherChangesNorKeepsBytes(t *testing.T) {
	var w Writer
	room := []byte{1, 2, 3, 4}
	w.Raw(room[:2])
	w.Counted(room[:1])
	w.Put(9, 1)
	if !bytes.Equal(room, []byte{1, 2, 3, 4}) {
		t.Errorf("changed: %v", room)
	}
	clear(room)
	if !bytes.Equal(w.Bytes(), []byte{1, 2, 1, 1, 9}) {
		t.Errorf("kept: %v", w.Bytes())
	}
}

func TestBytesAreNewMemory(t *testing.T) {
	var w Writer
	w.Raw([]byte{1, 2, 3})
	a, b := w.Bytes(), w.Bytes()
	clear(a[:cap(a)])
	_ = append(a, 7)
	w.Put(4, 1)
	if !bytes.Equal(b, []byte{1, 2, 3}) || !bytes.Equal(w.Bytes(), []byte{1, 2, 3, 4}) {
		t.Errorf("shared: %v, %v", b, w.Bytes())
	}
}

func TestReaderNeitherChangesNorKeepsBytes(t *testing.T) {
	room := []byte{1, 2, 3, 4, 2, 'h', 'i', 77}
	r := Read(room[:7])
	clear(room)
	if r.Get(2) != 0x0201 || !bytes.Equal(r.Raw(2), []byte{3, 4}) || string(r.Counted(2)) != "hi" || !r.End() {
		t.Error("kept")
	}
	if !bytes.Equal(room, make([]byte, 8)) {
		t.Errorf("changed: %v", room)
	}
}

func TestAnswersOfAReaderAreNewMemory(t *testing.T) {
	given := []byte{1, 2, 2, 3, 4, 5, 6}
	r := Read(given)
	raw := r.Raw(2)
	counted := r.Counted(2)
	for _, b := range [][]byte{raw, counted} {
		clear(b[:cap(b)])
		_ = append(b, 99)
	}
	if r.Get(1) != 5 || r.Get(1) != 6 || !bytes.Equal(given, []byte{1, 2, 2, 3, 4, 5, 6}) {
		t.Error("an answer shares memory")
	}
	r = Read(given)
	a := r.Raw(2)
	b := r.Raw(2)
	_ = append(a[:1], 50, 51, 52)
	if !bytes.Equal(b, []byte{2, 3}) {
		t.Errorf("answers share memory: %v", b)
	}
}
