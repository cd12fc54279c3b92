package relay

import (
	"crypto/sha256"
	"encoding/binary"
	"encoding/hex"
	"fmt"
	"math"
	"math/rand"
	"slices"
	"testing"

	"pontage/adjust"
	"pontage/api"
	"pontage/digest"
	"pontage/header"
	"pontage/tree"
)

const (
	half  = 0x207fffff // bits whose target about half of all hashes meet
	pace  = 100        // seconds from block to block, where it doesn't matter
	start = 1000       // the first block's time, where it doesn't matter
)

// bytesOf answers a header's bytes, by the library.
func bytesOf(h header.Header) []byte {
	b := binary.LittleEndian.AppendUint32(nil, h.Version)
	b = append(b, h.Ahead[:]...)
	b = append(b, h.Root[:]...)
	for _, x := range []uint32{h.Time, h.Bits, h.Nonce} {
		b = binary.LittleEndian.AppendUint32(b, x)
	}
	return b
}

// hashOf answers a header's hash, by the library.
func hashOf(h header.Header) digest.Hash {
	once := sha256.Sum256(bytesOf(h))
	return sha256.Sum256(once[:])
}

// rowOf answers the bytes of headers, one behind the other.
func rowOf(l []header.Header) []byte {
	var b []byte
	for _, h := range l {
		b = append(b, bytesOf(h)...)
	}
	return b
}

// mined answers a header with the first nonce with which it has work.
func mined(t testing.TB, h header.Header) header.Header {
	t.Helper()
	m, ok := header.Mine(h, 1<<18)
	if !ok {
		t.Fatalf("no nonce does it: %+v", h)
	}
	return m
}

// idle answers a header with the first nonce with which it has no work.
func idle(h header.Header) header.Header {
	for {
		if m, ok := header.Mine(h, 0); !ok || m != h {
			return h
		}
		h.Nonce++
	}
}

// rules are such by which the bits don't change.
func rules(t testing.TB, confirm int) adjust.Rules {
	t.Helper()
	first := mined(t, header.Header{Version: 1, Ahead: digest.Hash{2: 9}, Root: digest.Hash{5: 7}, Time: start, Bits: half})
	return adjust.Rules{Every: 2016, Span: 2015 * pace, Limit: half, Confirm: confirm, First: first}
}

// often are rules by which the target is set anew every so many blocks.
func often(t testing.TB, confirm, every int, span uint32) adjust.Rules {
	t.Helper()
	r := rules(t, confirm)
	r.Every, r.Span = every, span
	return r
}

// chainOf answers a tree's best chain.
func chainOf(x *tree.Tree) []digest.Hash {
	var l []digest.Hash
	for _, h := range x.Chain() {
		l = append(l, h)
	}
	return l
}

// turn answers how many blocks a chain has that another one hasn't.
func turn(before, after []digest.Hash) int {
	common := 0
	for common < min(len(before), len(after)) && before[common] == after[common] {
		common++
	}
	return len(before) - common
}

// block is one that was taken.
type block struct {
	head   header.Header
	hash   digest.Hash
	height int
}

// twin is a relay, and a tree beside it that is told the same, out of whose best chain each answer is found anew.
type twin struct {
	t       testing.TB
	rules   adjust.Rules
	relay   *Relay
	beside  *tree.Tree
	all     []block // in the order in which they were taken
	deepest int
	made    uint32 // so many headers, each of which has a version of its own
	fast    bool   // all is compared by hand, as far as it is
}

// from is a relay of the first block alone.
func from(t testing.TB, r adjust.Rules) *twin {
	t.Helper()
	x, e := New(r)
	if x == nil || e != api.OK {
		t.Fatalf("New of %+v: %v, %d", r, x, int(e))
	}
	beside, e := tree.New(r)
	if e != api.OK {
		t.Fatal(e)
	}
	w := &twin{t: t, rules: r, relay: x, beside: beside, all: []block{{head: r.First, hash: hashOf(r.First)}}}
	w.mustAgree()
	return w
}

// first answers the hash of the first block.
func (w *twin) first() digest.Hash {
	return w.all[0].hash
}

// find answers which of all blocks has a hash, or -1.
func (w *twin) find(h digest.Hash) int {
	return slices.IndexFunc(w.all, func(b block) bool { return b.hash == h })
}

// time answers that of a block.
func (w *twin) time(h digest.Hash) uint32 {
	return w.all[w.find(h)].head.Time
}

// height answers that of a block.
func (w *twin) height(h digest.Hash) int {
	return w.all[w.find(h)].height
}

// plain answers a header behind a block, of some time, with the bits that must be, but maybe without work.
func (w *twin) plain(ahead digest.Hash, time uint32) header.Header {
	w.t.Helper()
	w.made++
	bits, e := w.beside.Bits(ahead)
	if e != api.OK {
		bits = half
	}
	return header.Header{Version: 100 + w.made, Ahead: ahead, Time: time, Bits: bits}
}

// take tells the tree beside of a header, and answers what the relay is to answer.
func (w *twin) take(h header.Header) (Told, api.Errno) {
	before := chainOf(w.beside)
	if e := w.beside.Add(h); e != api.OK {
		return Told{}, e
	}
	hash := hashOf(h)
	height := w.height(h.Ahead) + 1
	w.all = append(w.all, block{head: h, hash: hash, height: height})
	after := chainOf(w.beside)
	want := Told{Hash: hash, Height: height, Best: after[len(after)-1] == hash, Turned: turn(before, after)}
	w.deepest = max(w.deepest, want.Turned)
	return want, api.OK
}

// submit tells of a header, and checks what comes of it.
func (w *twin) submit(h header.Header, wanted api.Errno) Told {
	w.t.Helper()
	want, e := w.take(h)
	if e != wanted {
		w.t.Fatalf("the tree beside answers %d of %+v, want %d", int(e), h, int(wanted))
	}
	got, e := w.relay.Submit(bytesOf(h))
	if got != want || e != wanted {
		w.t.Fatalf("Submit of %+v: %+v, %d; want %+v, %d", h, got, int(e), want, int(wanted))
	}
	if !w.fast {
		w.mustAgree()
	}
	return got
}

// many tells of several headers at once, of which so many are to be taken, and checks what comes of it.
func (w *twin) many(l []header.Header, taken int, wanted api.Errno) {
	w.t.Helper()
	for i, h := range l[:min(taken+1, len(l))] {
		_, e := w.take(h)
		if i < taken && e != api.OK || i == taken && (e != wanted || e == api.OK) {
			w.t.Fatalf("the tree beside answers %d of the header %d of %d", int(e), i, len(l))
		}
	}
	if n, e := w.relay.Many(rowOf(l)); n != taken || e != wanted {
		w.t.Fatalf("Many of %d headers: %d, %d; want %d, %d", len(l), n, int(e), taken, int(wanted))
	}
	if !w.fast {
		w.mustAgree()
	}
}

// next adds a block behind one, a pace behind it, and answers what came of it.
func (w *twin) next(ahead digest.Hash) Told {
	w.t.Helper()
	return w.submit(mined(w.t, w.plain(ahead, w.time(ahead)+pace)), api.OK)
}

// on adds so many blocks behind one, and answers all hashes.
func (w *twin) on(ahead digest.Hash, n int) []digest.Hash {
	w.t.Helper()
	var l []digest.Hash
	for range n {
		ahead = w.next(ahead).Hash
		l = append(l, ahead)
	}
	return l
}

// at adds blocks behind one, of these times, and answers what came of the last one.
func (w *twin) at(ahead digest.Hash, times ...uint32) Told {
	w.t.Helper()
	var told Told
	for _, time := range times {
		told = w.submit(mined(w.t, w.plain(ahead, time)), api.OK)
		ahead = told.Hash
	}
	return told
}

// row answers so many headers, the first one behind a block, that aren't told yet.
func (w *twin) row(ahead digest.Hash, n int) []header.Header {
	w.t.Helper()
	time := w.time(ahead)
	var l []header.Header
	for range n {
		time += pace
		h := mined(w.t, w.plain(ahead, time))
		l = append(l, h)
		ahead = hashOf(h)
	}
	return l
}

// strangers are hashes of blocks that aren't there.
func (w *twin) strangers() []digest.Hash {
	l := []digest.Hash{{}, {31: 1}, w.rules.First.Ahead, w.rules.First.Root}
	for _, i := range []int{0, len(w.all) / 2, len(w.all) - 1} {
		for _, at := range []int{0, 15, 31} {
			h := w.all[i].hash
			h[at] ^= 1
			l = append(l, h)
		}
	}
	return slices.DeleteFunc(l, func(h digest.Hash) bool { return w.find(h) >= 0 })
}

// mustAgree checks all that a relay tells.
func (w *twin) mustAgree() {
	w.t.Helper()
	chain := chainOf(w.beside)
	for _, b := range w.all {
		depth, wanted := 0, api.ErrDepth
		if i := slices.Index(chain, b.hash); i >= 0 {
			depth = len(chain) - i
		}
		if depth >= w.rules.Confirm {
			wanted = api.OK
		}
		mustStand(w.t, w.relay, b.hash, depth, wanted)
	}
	for _, h := range w.strangers() {
		mustStand(w.t, w.relay, h, 0, api.ErrNone)
	}
	w.mustDeepest(w.deepest)
	w.mustHaveItsTree(chain)
}

// mustHaveItsTree checks that the relay's tree has what the one beside has.
func (w *twin) mustHaveItsTree(chain []digest.Hash) {
	w.t.Helper()
	x := w.relay.Tree()
	if x == nil || x != w.relay.Tree() {
		w.t.Fatal("Tree isn't its tree")
	}
	if !slices.Equal(chainOf(x), chain) || x.Best() != w.beside.Best() || x.Tips() != w.beside.Tips() || x.Len() != len(w.all) {
		w.t.Errorf("Tree has %d blocks, %d tips, and the best one %x", x.Len(), x.Tips(), x.Best())
	}
	for _, b := range w.all {
		if h, ok := x.Header(b.hash); h != b.head || !ok {
			w.t.Errorf("Tree has %+v, %v; want %+v", h, ok, b.head)
		}
	}
}

func (w *twin) mustDeepest(want int) {
	w.t.Helper()
	if got := w.relay.Deepest(); got != want {
		w.t.Errorf("Deepest is %d, want %d", got, want)
	}
}

// mustStand checks how deep a block stands, and is it confirmed.
func mustStand(t testing.TB, x *Relay, h digest.Hash, depth int, wanted api.Errno) {
	t.Helper()
	if got := x.Depth(h); got != depth {
		t.Errorf("Depth of %x: %d, want %d", h, got, depth)
	}
	if e := x.Confirmed(h); e != wanted {
		t.Errorf("Confirmed of %x: %d, want %d", h, int(e), int(wanted))
	}
}

// P13.1: New

func TestNewOfRulesThatMayBe(t *testing.T) {
	for _, every := range []int{2, 3, 2015, 2016} {
		for _, span := range []uint32{1, 100, 1 << 31} {
			for _, confirm := range []int{1, 2, 99, 100} {
				for _, limit := range []uint32{half, 0x2100ffff} {
					r := rules(t, confirm)
					r.Every, r.Span, r.Limit = every, span, limit
					w := from(t, r)
					wanted := api.ErrDepth
					if confirm == 1 {
						wanted = api.OK
					}
					mustStand(t, w.relay, w.first(), 1, wanted)
					w.mustDeepest(0)
				}
			}
		}
	}
}

func TestNewOfRulesThatCantBe(t *testing.T) {
	workless := idle(header.Header{Bits: half})
	over := mined(t, header.Header{Bits: 0x2100ffff})
	for _, c := range []struct {
		change func(r *adjust.Rules)
		wanted api.Errno
	}{
		{func(r *adjust.Rules) { r.Every = 1 }, api.ErrArg},
		{func(r *adjust.Rules) { r.Every = 2017 }, api.ErrArg},
		{func(r *adjust.Rules) { r.Every = math.MinInt }, api.ErrArg},
		{func(r *adjust.Rules) { r.Span = 0 }, api.ErrArg},
		{func(r *adjust.Rules) { r.Span = 1<<31 + 1 }, api.ErrArg},
		{func(r *adjust.Rules) { r.Confirm = 0 }, api.ErrArg},
		{func(r *adjust.Rules) { r.Confirm = 101 }, api.ErrArg},
		{func(r *adjust.Rules) { r.Confirm = math.MinInt }, api.ErrArg},
		{func(r *adjust.Rules) { r.Confirm = math.MaxInt }, api.ErrArg},
		{func(r *adjust.Rules) { r.Limit = 0 }, api.ErrTarget},
		{func(r *adjust.Rules) { r.Limit = math.MaxUint32 }, api.ErrTarget},
		{func(r *adjust.Rules) { r.Limit = 0x207ffffe }, api.ErrTarget},
		{func(r *adjust.Rules) { r.First = header.Header{} }, api.ErrTarget},
		{func(r *adjust.Rules) { r.First = over }, api.ErrTarget},
		{func(r *adjust.Rules) { r.First = workless }, api.ErrWork},
		{func(r *adjust.Rules) { r.First, r.Limit = workless, 0 }, api.ErrTarget},
		{func(r *adjust.Rules) { r.First, r.Limit, r.Confirm = workless, 0, 0 }, api.ErrArg},
		{func(r *adjust.Rules) { *r = adjust.Rules{} }, api.ErrArg},
	} {
		r := rules(t, 2)
		c.change(&r)
		if x, e := New(r); x != nil || e != c.wanted || e != r.Check() {
			t.Errorf("New of %+v: %v, %d; want %d", r, x, int(e), int(c.wanted))
		}
	}
}

func TestRelaysOfTheSameRulesAreTheirOwn(t *testing.T) {
	r := rules(t, 2)
	one, other := from(t, r), from(t, r)
	one.on(one.first(), 3)
	other.mustAgree()
	other.on(other.first(), 5)
	one.mustAgree()
}

// P13.1: Submit, by the number of bytes

func TestSubmitOfAnyNumberOfBytes(t *testing.T) {
	w := from(t, rules(t, 2))
	l := w.row(w.on(w.first(), 2)[1], 3)
	b := rowOf(l)
	for n := range len(b) + 1 {
		if n == api.HeaderSize {
			continue
		}
		if told, e := w.relay.Submit(b[:n]); told != (Told{}) || e != api.ErrForm {
			t.Fatalf("Submit of %d bytes: %+v, %d", n, told, int(e))
		}
	}
	for _, b := range [][]byte{nil, {}, b[1:80], b[1:82], make([]byte, 79), make([]byte, 81), make([]byte, 1<<16)} {
		if told, e := w.relay.Submit(b); told != (Told{}) || e != api.ErrForm {
			t.Errorf("Submit of %d bytes: %+v, %d", len(b), told, int(e))
		}
	}
	w.mustAgree()
	w.submit(l[0], api.OK) // it is still to be taken
}

// That it isn't a header at all goes ahead of all that a header may lack.
func TestErrFormGoesAhead(t *testing.T) {
	w := from(t, rules(t, 2))
	a := w.on(w.first(), 2)
	for _, h := range []header.Header{w.rules.First, w.all[2].head, idle(w.plain(a[1], 2000)), {}} {
		for _, b := range [][]byte{bytesOf(h)[:79], append(bytesOf(h), 0), append(bytesOf(h), bytesOf(h)...)} {
			if told, e := w.relay.Submit(b); told != (Told{}) || e != api.ErrForm {
				t.Errorf("Submit of %d bytes: %+v, %d", len(b), told, int(e))
			}
		}
	}
	w.mustAgree()
}

// P13.1: Submit, by where the block is

// Each row is a block, by its name, and the one ahead of it, with what is to be told of it, and how deep it was turned at most then.
func TestSubmitByHand(t *testing.T) {
	w := from(t, rules(t, 3))
	hashes := map[string]digest.Hash{"0": w.first()}
	for _, c := range []struct {
		name, ahead string
		height      int
		best        bool
		turned      int
		deepest     int
	}{
		{"a1", "0", 1, true, 0, 0},
		{"a2", "a1", 2, true, 0, 0},
		{"b2", "a1", 2, false, 0, 0}, // a fork, with as much work as the best one
		{"b3", "b2", 3, true, 1, 1},  // a turn by one block
		{"b4", "b3", 4, true, 0, 1},
		{"c1", "0", 1, false, 0, 1}, // a fork from the first block
		{"c2", "c1", 2, false, 0, 1},
		{"c3", "c2", 3, false, 0, 1},
		{"c4", "c3", 4, false, 0, 1}, // as much work as the best one
		{"a3", "a2", 3, false, 0, 1}, // behind a tip that isn't the best one
		{"c5", "c4", 5, true, 4, 4},  // a turn by four blocks: the deepest so far
		{"b5", "b4", 5, false, 0, 4},
		{"c6", "c5", 6, true, 0, 4},
		{"d6", "c5", 6, false, 0, 4},
		{"d7", "d6", 7, true, 1, 4}, // a shallower one behind it
		{"e5", "c4", 5, false, 0, 4},
		{"e6", "e5", 6, false, 0, 4},
		{"e7", "e6", 7, false, 0, 4},
		{"e8", "e7", 8, true, 3, 4},
		{"b6", "b5", 6, false, 0, 4},
		{"b7", "b6", 7, false, 0, 4},
		{"b8", "b7", 8, false, 0, 4},
		{"b9", "b8", 9, true, 8, 8}, // and a deeper one: the last block ahead of both is the first one
		{"f2", "a1", 2, false, 0, 8},
	} {
		want := Told{Height: c.height, Best: c.best, Turned: c.turned}
		got := w.next(hashes[c.ahead])
		hashes[c.name] = got.Hash
		got.Hash = digest.Hash{}
		if got != want {
			t.Errorf("%s: %+v, want %+v", c.name, got, want)
		}
		w.mustDeepest(c.deepest)
	}
}

func TestSubmitBehindTheBest(t *testing.T) {
	w := from(t, rules(t, 6))
	for height := 1; height <= 40; height++ {
		told := w.next(w.beside.Best())
		if told.Height != height || !told.Best || told.Turned != 0 {
			t.Errorf("at %d: %+v", height, told)
		}
	}
	w.mustDeepest(0)
}

func TestTurnsOfEachDepth(t *testing.T) {
	for _, trunk := range []int{1, 2, 3, 7, 20} {
		for depth := 1; depth <= trunk; depth++ {
			w := from(t, rules(t, 2))
			chain := append([]digest.Hash{w.first()}, w.on(w.first(), trunk)...)
			ahead := chain[trunk-depth]
			for i := range depth { // as many blocks as it has are no more work
				told := w.next(ahead)
				if told.Best || told.Turned != 0 || told.Height != trunk-depth+1+i {
					t.Errorf("by %d of %d: %+v", depth, trunk, told)
				}
				ahead = told.Hash
			}
			w.mustDeepest(0)
			told := w.next(ahead)
			if !told.Best || told.Turned != depth || told.Height != trunk+1 {
				t.Errorf("by %d of %d: %+v", depth, trunk, told)
			}
			w.mustDeepest(depth)
			mustStand(t, w.relay, chain[trunk], 0, api.ErrDepth)
			mustStand(t, w.relay, chain[trunk-depth], depth+2, api.OK)
		}
	}
}

// By these rules a block that comes 10 seconds behind the first one makes the next one four times as heavy, and one that comes 100 seconds behind it doesn't.
func TestTurnToAShorterChain(t *testing.T) {
	w := from(t, often(t, 4, 2, 100))
	long := w.at(w.first(), 1100, 1200, 1300, 1400)
	mustStand(t, w.relay, w.first(), 5, api.OK)
	short := w.at(w.first(), 1010, 1110)
	if want := (Told{Hash: short.Hash, Height: 2, Best: true, Turned: 4}); short != want {
		t.Errorf("%+v, want %+v", short, want)
	}
	mustStand(t, w.relay, w.first(), 3, api.ErrDepth) // as the target was set anew, it isn't confirmed any more
	mustStand(t, w.relay, long.Hash, 0, api.ErrDepth)
	even := w.at(long.Hash, 1500)
	if want := (Told{Hash: even.Hash, Height: 5}); even != want { // more blocks, but just as much work
		t.Errorf("%+v, want %+v", even, want)
	}
	back := w.at(even.Hash, 1600)
	if want := (Told{Hash: back.Hash, Height: 6, Best: true, Turned: 2}); back != want { // as deep as the one that was stood, not as the other one is high
		t.Errorf("%+v, want %+v", back, want)
	}
	mustStand(t, w.relay, w.first(), 7, api.OK)
	w.mustDeepest(4)
}

// These are blocks of the chain itself.
func TestTheChainsFirstBlocks(t *testing.T) {
	first := header.Header{Version: 1, Root: mustParse(t, "4a5e1e4baab89f3a32518a88c31bc87f618f76673e2cc77ab2127b7afdeda33b"), Time: 1231006505, Bits: 0x1d00ffff, Nonce: 2083236893}
	r := adjust.Rules{Every: 2016, Span: 1209600, Limit: 0x1d00ffff, Confirm: 2, First: first}
	second := "010000006fe28c0ab6f1b372c1a6a246ae63f74f931e8365e15a089c68d6190000000000" +
		"982051fd1e4ba744bbbe680e1fee14677ba1a3c3540bf7b1cdb606e857233e0e61bc6649ffff001d01e36299"
	third := "010000004860eb18bf1b1620e37e9490fc8a427514416fd75159ab86688e9a8300000000" +
		"d5fdcc541e25de1c7a5addedf24858b8bb665c9f36ef744ee42c316022c90f9bb0bc6649ffff001d08d2bd61"
	one := mustParse(t, "00000000839a8e6886ab5951d76f411475428afc90947ee320161bbf18eb6048")
	two := mustParse(t, "000000006a625f06636b8bb6ac7b960a8d03705d1ace08b1a19da3fdcc99ddbd")
	x := from(t, r).relay
	if told, e := x.Submit(mustRead(t, third)); told != (Told{}) || e != api.ErrOrphan {
		t.Errorf("%+v, %d", told, int(e))
	}
	if told, e := x.Submit(mustRead(t, second)); told != (Told{Hash: one, Height: 1, Best: true}) || e != api.OK {
		t.Errorf("%+v, %d", told, int(e))
	}
	if told, e := x.Submit(mustRead(t, third)); told != (Told{Hash: two, Height: 2, Best: true}) || e != api.OK {
		t.Errorf("%+v, %d", told, int(e))
	}
	y := from(t, r).relay
	if n, e := y.Many(mustRead(t, second+third)); n != 2 || e != api.OK {
		t.Errorf("%d, %d", n, int(e))
	}
	for _, x := range []*Relay{x, y} {
		mustStand(t, x, two, 1, api.ErrDepth)
		mustStand(t, x, one, 2, api.OK)
		mustStand(t, x, hashOf(first), 3, api.OK)
	}
}

// mustParse answers the hash of a text.
func mustParse(t *testing.T, s string) digest.Hash {
	t.Helper()
	h, e := digest.Parse(s)
	if e != api.OK {
		t.Fatalf("Parse of %s: %d", s, int(e))
	}
	return h
}

// mustRead answers the bytes of hexadecimal, in their order.
func mustRead(t *testing.T, s string) []byte {
	t.Helper()
	b, err := hex.DecodeString(s)
	if err != nil {
		t.Fatal(err)
	}
	return b
}

// P13.1: errors of the tree's Add

// crowded is a relay with as many tips as there may be, the hash of a block that has blocks behind it, and that of the best one.
func crowded(t testing.TB, confirm int) (w *twin, between, best digest.Hash) {
	t.Helper()
	w = from(t, rules(t, confirm))
	w.fast = true
	a := w.on(w.first(), 3)
	for range 15 {
		w.submit(mined(t, w.plain(a[1], 2000)), api.OK)
	}
	w.on(w.all[9].hash, 1) // a turn
	w.fast = false
	w.mustAgree()
	return w, a[0], w.beside.Best()
}

// order are the tree's errors, but ErrSame, in their order.
func order() []api.Errno {
	return []api.Errno{api.ErrOrphan, api.ErrTarget, api.ErrWork, api.ErrTime, api.ErrFull}
}

// wrong answers a header behind a tip of a crowded relay that is wrong by just these errors.
func wrong(w *twin, between, tip digest.Hash, is func(e api.Errno) bool) header.Header {
	w.t.Helper()
	h := w.plain(tip, w.time(tip)+pace)
	if is(api.ErrFull) {
		h.Ahead = between
	}
	if is(api.ErrOrphan) {
		h.Ahead = digest.Hash{1: 1}
	}
	if is(api.ErrTarget) {
		h.Bits = 0x203fffff
	}
	if is(api.ErrTime) {
		h.Time = start
	}
	if is(api.ErrWork) {
		return idle(h)
	}
	return mined(w.t, h)
}

func TestSubmitOfWhatTheTreeDoesNotTake(t *testing.T) {
	w, between, best := crowded(t, 2)
	for _, b := range slices.Clone(w.all) { // that it is there already goes ahead of all
		w.submit(b.head, api.ErrSame)
	}
	for errors := range 1 << len(order()) {
		is := func(e api.Errno) bool { return errors>>slices.Index(order(), e)&1 == 1 }
		wanted := api.OK
		if i := slices.IndexFunc(order(), is); i >= 0 {
			wanted = order()[i]
		}
		told := w.submit(wrong(w, between, best, is), wanted)
		if wanted == api.OK {
			best = told.Hash
			continue
		}
		w.many([]header.Header{wrong(w, between, best, is)}, 0, wanted)
	}
}

func TestSubmitOfAnOrphanThatIsToCome(t *testing.T) {
	w := from(t, rules(t, 2))
	l := w.row(w.first(), 3)
	w.submit(l[2], api.ErrOrphan)
	w.submit(l[1], api.ErrOrphan)
	w.submit(l[0], api.OK)
	w.submit(l[2], api.ErrOrphan) // it wasn't kept
	w.submit(l[1], api.OK)
	w.submit(l[2], api.OK)
	w.submit(l[2], api.ErrSame)
}

func TestSubmitAroundAHeightAtWhichTheTargetIsSet(t *testing.T) {
	w := from(t, often(t, 2, 2, 100))
	told := w.at(w.first(), 1050)
	for _, bits := range []uint32{half, 0x203ffffe, 0, math.MaxUint32} {
		h := w.plain(told.Hash, 1100)
		h.Bits = bits
		w.submit(h, api.ErrTarget)
	}
	w.submit(idle(w.plain(told.Hash, 1100)), api.ErrWork)
	h := mined(t, w.plain(told.Hash, 1100))
	if h.Bits != 0x203fffff {
		t.Fatalf("the bits are %#08x", h.Bits)
	}
	w.submit(h, api.OK)
}

// P13.1: Many

func TestManyOfNone(t *testing.T) {
	w := from(t, rules(t, 2))
	for range 2 {
		for _, b := range [][]byte{nil, {}, make([]byte, 0, 80)} {
			if n, e := w.relay.Many(b); n != 0 || e != api.OK {
				t.Errorf("Many of none: %d, %d", n, int(e))
			}
		}
		w.mustAgree()
		w.on(w.first(), 3)
	}
}

func TestManyOfSomeHeaders(t *testing.T) {
	for _, n := range []int{1, 2, 3, 17, 200} {
		w := from(t, rules(t, 2))
		w.many(w.row(w.first(), n), n, api.OK)
		w.many(w.row(w.first(), n), n, api.OK) // a fork as heavy as the best chain
		w.mustDeepest(0)
		w.many(w.row(w.all[2*n].hash, 1), 1, api.OK)
		w.mustDeepest(n)
		w.many(w.row(w.beside.Best(), n), n, api.OK)
		w.mustDeepest(n)
	}
}

func TestManyTurnsInOne(t *testing.T) {
	w := from(t, rules(t, 3))
	a := w.row(w.first(), 2)
	b := w.row(w.first(), 3)
	w.many([]header.Header{a[0], b[0], b[1], a[1], b[2]}, 5, api.OK) // turns by one, and by none
	w.mustDeepest(1)
	w = from(t, rules(t, 3))
	a = w.row(w.first(), 6)
	b = w.row(w.first(), 5)
	w.many(slices.Concat(a[:2], b[:3], a[2:4], b[3:], a[4:]), 11, api.OK) // turns by 2, 3, 4 and 5
	w.mustDeepest(5)
}

// Many tells of whole headers alone, however much of it is right.
func TestManyOfAnyNumberOfBytes(t *testing.T) {
	w := from(t, rules(t, 2))
	w.on(w.first(), 2)
	l := w.row(w.all[2].hash, 3)
	b := append(rowOf(l), bytesOf(l[0])...)
	for n := range len(b) {
		if n%80 == 0 {
			continue
		}
		if taken, e := w.relay.Many(b[:n]); taken != 0 || e != api.ErrForm {
			t.Fatalf("Many of %d bytes: %d, %d", n, taken, int(e))
		}
	}
	w.mustAgree()
	for _, n := range []int{79, 81, 159, 161, 80*4096 - 1, 80*4096 + 1} { // none of these is a header that would be taken
		if taken, e := w.relay.Many(make([]byte, n)); taken != 0 || e != api.ErrForm {
			t.Errorf("Many of %d bytes: %d, %d", n, taken, int(e))
		}
	}
	w.mustAgree()
	w.many(l, 3, api.OK)
}

func TestManyOfWhichOneIsNotTaken(t *testing.T) {
	for _, wanted := range append(order(), api.ErrSame) {
		for _, at := range []int{0, 1, 3, 5, 6} {
			t.Run(fmt.Sprint(int(wanted), " at ", at), func(t *testing.T) {
				w, between, best := crowded(t, 2)
				row := w.row(best, 6)
				bad := w.rules.First
				if wanted != api.ErrSame {
					bad = wrong(w, between, best, func(e api.Errno) bool { return e == wanted })
				}
				if wanted == api.ErrTarget || wanted == api.ErrWork { // behind the last one that is taken
					if at > 0 {
						bad.Ahead = hashOf(row[at-1])
						bad.Time = row[at-1].Time + pace
					}
					if bad = mined(t, bad); wanted == api.ErrWork {
						bad = idle(bad)
					}
				}
				w.many(slices.Insert(slices.Clone(row), at, bad), at, wanted) // what comes behind it isn't taken, though it could be
				w.many(row[at:], len(row)-at, api.OK)
				w.many(row, 0, api.ErrSame)
			})
		}
	}
}

func TestManyInTheWrongOrder(t *testing.T) {
	w := from(t, rules(t, 2))
	l := w.row(w.first(), 4)
	w.many([]header.Header{l[1], l[0]}, 0, api.ErrOrphan)
	w.many([]header.Header{l[0], l[2], l[1]}, 1, api.ErrOrphan)
	w.many([]header.Header{l[1], l[1], l[2]}, 1, api.ErrSame)
	w.many([]header.Header{l[2], l[3], l[0]}, 2, api.ErrSame)
}

// Of several that are wrong the first one tells the error.
func TestManyTellsTheFirstError(t *testing.T) {
	w, between, best := crowded(t, 2)
	all := append(order(), api.ErrSame)
	for i, one := range all {
		for _, other := range slices.Concat(all[i+1:], all[:i]) {
			var bad [2]header.Header
			for j, e := range []api.Errno{one, other} {
				bad[j] = wrong(w, between, best, func(x api.Errno) bool { return x == e })
				if e == api.ErrSame {
					bad[j] = w.rules.First
				}
			}
			w.many(bad[:], 0, one)
		}
	}
}

func TestManyBeyondMaxHeaders(t *testing.T) {
	w := from(t, rules(t, 100))
	w.fast = true
	l := w.row(w.first(), 4100)
	w.many(l, 4095, api.ErrFull)
	w.many(l[4095:], 0, api.ErrFull)
	w.submit(l[4095], api.ErrFull)
	w.submit(l[4094], api.ErrSame)
	w.submit(l[4096], api.ErrOrphan)
	mustStand(t, w.relay, w.first(), 4096, api.OK)
	mustStand(t, w.relay, hashOf(l[3995]), 100, api.OK)
	mustStand(t, w.relay, hashOf(l[3996]), 99, api.ErrDepth)
	mustStand(t, w.relay, hashOf(l[4094]), 1, api.ErrDepth)
	mustStand(t, w.relay, hashOf(l[4095]), 0, api.ErrNone)
	w.mustDeepest(0)
}

func TestADeepTurn(t *testing.T) {
	w := from(t, rules(t, 100))
	w.fast = true
	a := w.row(w.first(), 2000)
	w.many(a, 2000, api.OK)
	b := w.row(w.first(), 2001)
	w.many(b[:2000], 2000, api.OK)
	w.mustDeepest(0)
	if told := w.submit(b[2000], api.OK); !told.Best || told.Height != 2001 || told.Turned != 2000 {
		t.Errorf("%+v", told)
	}
	w.mustDeepest(2000)
	mustStand(t, w.relay, hashOf(a[0]), 0, api.ErrDepth)
	mustStand(t, w.relay, hashOf(b[0]), 2001, api.OK)
	mustStand(t, w.relay, hashOf(b[2000]), 1, api.ErrDepth)
}

// P13.2: Confirmed and Depth

// With two blocks that confirm, the best one isn't confirmed, the one ahead of it is.
func TestConfirmedOfTheExample(t *testing.T) {
	w := from(t, rules(t, 2))
	a := w.on(w.first(), 3)
	mustStand(t, w.relay, a[2], 1, api.ErrDepth)
	mustStand(t, w.relay, a[1], 2, api.OK)
	mustStand(t, w.relay, a[0], 3, api.OK)
	mustStand(t, w.relay, w.first(), 4, api.OK)
}

func TestConfirmedJustAsDeep(t *testing.T) {
	for _, confirm := range []int{1, 2, 3, 6, 99, 100} {
		w := from(t, rules(t, confirm))
		w.fast = true
		chain := []digest.Hash{w.first()}
		for len(chain) < confirm-1 {
			chain = append(chain, w.next(chain[len(chain)-1]).Hash)
		}
		if len(chain) < confirm {
			mustStand(t, w.relay, w.first(), confirm-1, api.ErrDepth) // one less
			chain = append(chain, w.next(chain[len(chain)-1]).Hash)
		}
		mustStand(t, w.relay, w.first(), confirm, api.OK) // just as deep
		for range 5 {
			chain = append(chain, w.next(chain[len(chain)-1]).Hash)
			for i, h := range chain {
				wanted := api.ErrDepth
				if len(chain)-i >= confirm {
					wanted = api.OK
				}
				mustStand(t, w.relay, h, len(chain)-i, wanted)
			}
		}
		w.mustAgree()
	}
}

// However high and heavy a block is, it isn't confirmed off the best chain.
func TestConfirmedOffTheBestChain(t *testing.T) {
	for _, confirm := range []int{1, 2, 4} {
		w := from(t, rules(t, confirm))
		a := w.on(w.first(), 5)
		b := w.on(w.first(), 5)
		c := w.on(a[2], 2)
		for _, h := range slices.Concat(b, c) {
			mustStand(t, w.relay, h, 0, api.ErrDepth)
		}
		for i, h := range a {
			mustStand(t, w.relay, h, 5-i, wantedAt(5-i, confirm))
		}
		b = append(b, w.next(b[4]).Hash) // now it is the best one
		for _, h := range slices.Concat(a, c) {
			mustStand(t, w.relay, h, 0, api.ErrDepth)
		}
		for i, h := range b {
			mustStand(t, w.relay, h, 6-i, wantedAt(6-i, confirm))
		}
		mustStand(t, w.relay, w.first(), 7, api.OK)
	}
}

func TestOfBlocksThatAreNotThere(t *testing.T) {
	w := from(t, rules(t, 1))
	l := w.row(w.first(), 3)
	for _, h := range append(w.strangers(), hashOf(l[0]), hashOf(l[2])) {
		mustStand(t, w.relay, h, 0, api.ErrNone)
	}
	w.submit(l[2], api.ErrOrphan)
	mustStand(t, w.relay, hashOf(l[2]), 0, api.ErrNone)
	w.many(l, 3, api.OK)
	mustStand(t, w.relay, hashOf(l[2]), 1, api.OK)
}

// P13.2: Deepest and Tree

func TestDeepestOfTurnsBehindEachOther(t *testing.T) {
	w := from(t, rules(t, 2))
	a := w.on(w.first(), 4)
	w.mustDeepest(0)
	b := w.on(a[1], 3)
	w.mustDeepest(2) // with one
	c := w.on(b[1], 2)
	w.mustDeepest(2) // a shallower one, by one block
	d := w.on(a[0], 6)
	w.mustDeepest(5) // a deeper one
	w.on(c[1], 2)
	w.mustDeepest(6) // and back
	w.on(d[5], 1)
	w.mustDeepest(6)
	w.on(d[4], 1)
	w.mustDeepest(6)
}

// Forks that stay behind the best one turn nothing, however many there are.
func TestForksAreNoTurns(t *testing.T) {
	w := from(t, rules(t, 2))
	a := w.on(w.first(), 6)
	for _, ahead := range a {
		w.on(ahead, 1)
	}
	w.mustDeepest(0)
	for range 8 {
		w.on(w.first(), 1)
	}
	w.mustDeepest(0)
}

// Its tree is its own: one that was had before tells what was added since, and what is added to it is there.
func TestTreeIsItsOwn(t *testing.T) {
	w := from(t, rules(t, 2))
	x := w.relay.Tree()
	a := w.on(w.first(), 2)
	if x.Len() != 3 || x.Best() != a[1] || x != w.relay.Tree() {
		t.Errorf("%d blocks, %x", x.Len(), x.Best())
	}
	h := mined(t, w.plain(a[1], w.time(a[1])+pace))
	if e := x.Add(h); e != api.OK {
		t.Fatal(e)
	}
	mustStand(t, w.relay, hashOf(h), 1, api.ErrDepth)
	mustStand(t, w.relay, a[1], 2, api.OK)
	if told, e := w.relay.Submit(bytesOf(h)); told != (Told{}) || e != api.ErrSame {
		t.Errorf("%+v, %d", told, int(e))
	}
	next := mined(t, header.Header{Ahead: hashOf(h), Time: h.Time + pace, Bits: half})
	if told, e := w.relay.Submit(bytesOf(next)); told != (Told{Hash: hashOf(next), Height: 4, Best: true}) || e != api.OK {
		t.Errorf("%+v, %d", told, int(e))
	}
}

// P13.2: no relay

func TestNilRelay(t *testing.T) {
	var x *Relay
	r := rules(t, 1)
	behind := mined(t, header.Header{Ahead: hashOf(r.First), Time: 2000, Bits: half})
	for _, b := range [][]byte{nil, {}, make([]byte, 79), make([]byte, 80), make([]byte, 81), make([]byte, 160), bytesOf(r.First), bytesOf(behind)} {
		if told, e := x.Submit(b); told != (Told{}) || e != api.ErrArg {
			t.Errorf("Submit of %d bytes: %+v, %d", len(b), told, int(e))
		}
		if n, e := x.Many(b); n != 0 || e != api.ErrArg {
			t.Errorf("Many of %d bytes: %d, %d", len(b), n, int(e))
		}
	}
	for _, h := range []digest.Hash{{}, hashOf(r.First), {31: 255}} {
		mustStand(t, x, h, 0, api.ErrArg)
	}
	if x.Deepest() != 0 || x.Tree() != nil {
		t.Errorf("%d, %v", x.Deepest(), x.Tree())
	}
}

// Of a relay that New didn't make nothing is promised, but that calls end.
func TestRelayThatIsNotMade(t *testing.T) {
	x := &Relay{}
	h := bytesOf(rules(t, 1).First)
	if told, e := x.Submit(h); told != (Told{}) || e == api.OK {
		t.Errorf("Submit: %+v, %d", told, int(e))
	}
	if n, e := x.Many(h); n != 0 || e == api.OK {
		t.Errorf("Many: %d, %d", n, int(e))
	}
	if x.Confirmed(digest.Hash{}) == api.OK || x.Depth(digest.Hash{}) != 0 || x.Deepest() != 0 || x.Tree() != nil {
		t.Error("there is something in it")
	}
}

// P13.3

// steady grows the best chain and branches, so that no turn is as deep as Confirm.
type steady struct {
	*twin
	r      *rand.Rand
	branch digest.Hash // the one that grows now
}

// step adds a block more.
func (s *steady) step() {
	s.t.Helper()
	if s.r.Intn(2*s.rules.Confirm) == 0 || !s.mayGrow(s.branch) {
		s.branch = s.other()
	}
	if s.r.Intn(8) == 0 || !s.mayGrow(s.branch) {
		s.next(s.beside.Best())
		return
	}
	s.branch = s.next(s.branch).Hash
}

// other answers where the next branch grows: behind a block of the best chain that isn't confirmed, or where one was left.
func (s *steady) other() digest.Hash {
	top := s.height(s.beside.Best())
	ahead, ok := s.beside.At(top - s.r.Intn(s.rules.Confirm))
	if ok && s.mayGrow(ahead) {
		return ahead
	}
	return s.all[len(s.all)-1-s.r.Intn(min(len(s.all), 2*s.rules.Confirm))].hash
}

// mayGrow tells: is there room behind a block, and would the best chain not be turned as deep as Confirm by one there?
func (s *steady) mayGrow(ahead digest.Hash) bool {
	best := s.beside.Best()
	fork, _ := s.beside.Fork(ahead, best)
	if s.height(ahead) >= s.height(best) && s.height(best)-fork >= s.rules.Confirm {
		return false
	}
	return s.beside.Tips() < api.MaxForks || !slices.ContainsFunc(s.all, func(b block) bool { return b.head.Ahead == ahead })
}

func TestWhatIsConfirmedStaysSo(t *testing.T) {
	for _, confirm := range []int{1, 2, 3, 6, 20, 100} {
		r := rand.New(rand.NewSource(int64(confirm)))
		deepest := 0
		for range 4 {
			w := from(t, rules(t, confirm))
			w.fast = true
			s := steady{twin: w, r: r, branch: w.first()}
			var confirmed []digest.Hash
			for range 400 {
				s.step()
				for _, h := range confirmed {
					if e := w.relay.Confirmed(h); e != api.OK {
						t.Fatalf("Confirm %d: %x isn't confirmed any more: %d", confirm, h, int(e))
					}
				}
				for height := len(confirmed); ; height++ {
					h, _ := w.beside.At(height)
					if w.relay.Confirmed(h) != api.OK {
						break
					}
					confirmed = append(confirmed, h)
				}
			}
			w.mustAgree()
			if len(confirmed) < 20 {
				t.Errorf("Confirm %d: only %d blocks were confirmed", confirm, len(confirmed))
			}
			deepest = max(deepest, w.deepest)
		}
		if deepest >= confirm || deepest < confirm/2 {
			t.Errorf("Confirm %d: it was turned by %d", confirm, deepest)
		}
	}
}

// The deepest turn by which nothing is lost, and the least deep one by which something is.
func TestATurnAsDeepAsConfirm(t *testing.T) {
	for _, confirm := range []int{1, 2, 3, 6, 50, 100} {
		for _, depth := range []int{confirm - 1, confirm, confirm + 1} {
			w := from(t, rules(t, confirm))
			w.fast = true
			const length = 110
			chain := append([]digest.Hash{w.first()}, w.on(w.first(), length)...)
			last := length - confirm + 1 // the last one that is confirmed
			mustStand(t, w.relay, chain[last], confirm, api.OK)
			w.on(chain[length-depth], depth+1)
			w.mustDeepest(depth)
			mustStand(t, w.relay, chain[length-depth], depth+2, wantedAt(depth+2, confirm))
			if depth < confirm {
				mustStand(t, w.relay, chain[last], confirm+1, api.OK)
			} else {
				mustStand(t, w.relay, chain[last], 0, api.ErrDepth)
			}
		}
	}
}

// wantedAt answers what Confirmed is to answer of a block so deep.
func wantedAt(depth, confirm int) api.Errno {
	if depth < confirm {
		return api.ErrDepth
	}
	return api.OK
}

// strayed answers a header behind any block, mostly a right one.
func strayed(w *twin, r *rand.Rand) header.Header {
	w.t.Helper()
	at := w.all[max(0, len(w.all)-1-r.Intn(4))]
	if r.Intn(8) == 0 {
		at = w.all[r.Intn(len(w.all))]
	}
	h := w.plain(at.hash, at.head.Time+1+uint32(r.Intn(2*pace)))
	switch r.Intn(16) {
	case 0:
		h.Ahead[r.Intn(32)] ^= 1
	case 1:
		h.Bits = []uint32{half, 0x203fffff, 0}[r.Intn(3)]
	case 2:
		return idle(h)
	case 3:
		h.Time = at.head.Time - uint32(r.Intn(5*pace))
	case 4:
		return at.head
	}
	if m, ok := header.Mine(h, 1<<16); ok {
		return m
	}
	return h
}

// wild tells of headers anywhere, right ones and wrong ones, and checks all that is told behind each one.
func wild(t *testing.T, seed int64, headers int, seen map[api.Errno]int) *twin {
	t.Helper()
	r := rand.New(rand.NewSource(seed))
	rules := often(t, 1+r.Intn(8), 2+r.Intn(6), uint32(100+r.Intn(400)))
	if r.Intn(2) == 0 {
		rules.Every = 2016
	}
	w := from(t, rules)
	for range headers {
		h := strayed(w, r)
		want, wanted := w.take(h)
		if got, e := w.relay.Submit(bytesOf(h)); got != want || e != wanted {
			t.Fatalf("seed %d: Submit of %+v: %+v, %d; want %+v, %d", seed, h, got, int(e), want, int(wanted))
		}
		seen[wanted]++
		w.mustAgree()
		if t.Failed() {
			t.Fatalf("seed %d, %d blocks", seed, len(w.all))
		}
	}
	return w
}

// What was told by one call for each header is just so if it is told by a call for several.
func TestOfAnyHeaders(t *testing.T) {
	turned, seen := 0, map[api.Errno]int{}
	for seed := range int64(30) {
		w := wild(t, seed, 60, seen)
		turned += w.deepest
		one, other := w.relay, from(t, w.rules).relay
		r := rand.New(rand.NewSource(seed))
		for i := 1; i < len(w.all); {
			n := min(1+r.Intn(9), len(w.all)-i)
			var l []header.Header
			for _, b := range w.all[i : i+n] {
				l = append(l, b.head)
			}
			if taken, e := other.Many(rowOf(l)); taken != n || e != api.OK {
				t.Fatalf("seed %d: Many: %d, %d", seed, taken, int(e))
			}
			i += n
		}
		w.relay = other
		w.mustAgree()
		w.relay = one
		w.mustAgree()
	}
	for _, e := range append(order(), api.ErrSame, api.OK) {
		if seen[e] == 0 {
			t.Errorf("%d was never answered", int(e))
		}
	}
	if turned < 30 {
		t.Errorf("it was turned by %d blocks in all", turned)
	}
}

func TestNothingHandedInIsChangedOrKept(t *testing.T) {
	w := from(t, rules(t, 2))
	l := w.row(w.first(), 4)
	room := slices.Concat(make([]byte, 7), rowOf(l), make([]byte, 100))
	for i := range 7 {
		room[i] = byte(i)
	}
	before := slices.Clone(room)
	for _, h := range l {
		w.take(h)
	}
	if told, e := w.relay.Submit(room[7:87]); told.Hash != hashOf(l[0]) || e != api.OK {
		t.Errorf("%+v, %d", told, int(e))
	}
	if n, e := w.relay.Many(room[87 : 7+320]); n != 3 || e != api.OK {
		t.Errorf("%d, %d", n, int(e))
	}
	w.relay.Submit(room[7:86])
	w.relay.Submit(room[7:87])
	w.relay.Many(room[7 : 7+321])
	w.relay.Many(room[7 : 7+320])
	if !slices.Equal(room, before) {
		t.Error("what was handed in was changed, or its spare room")
	}
	for i := range room {
		room[i] = 255
	}
	w.mustAgree()
	w.on(w.beside.Best(), 3)
}

// Asking changes nothing, and is answered as before.
func TestAskingChangesNothing(t *testing.T) {
	w := wild(t, 77, 40, map[api.Errno]int{})
	for range 3 {
		w.mustAgree()
	}
	w.on(w.beside.Best(), 2)
}
