package tree

import (
	"crypto/sha256"
	"encoding/binary"
	"fmt"
	"iter"
	"math"
	"math/big"
	"math/rand"
	"slices"
	"testing"

	"pontage/adjust"
	"pontage/api"
	"pontage/digest"
	"pontage/header"
	"pontage/wide"
)

const (
	half  = 0x207fffff // bits whose target about half of all hashes meet
	pace  = 100        // seconds from block to block, where it doesn't matter
	start = 1000       // the first block's time, where it doesn't matter
	last  = math.MaxUint32
)

// hashOf answers a header's hash, by the library.
func hashOf(h header.Header) digest.Hash {
	b := binary.LittleEndian.AppendUint32(nil, h.Version)
	b = append(b, h.Ahead[:]...)
	b = append(b, h.Root[:]...)
	for _, x := range []uint32{h.Time, h.Bits, h.Nonce} {
		b = binary.LittleEndian.AppendUint32(b, x)
	}
	once := sha256.Sum256(b)
	return sha256.Sum256(once[:])
}

// told answers the target of bits, by the library: nil, if they tell none.
func told(bits uint32) *big.Int {
	m := bits & 0x7fffff
	t := new(big.Int).Lsh(big.NewInt(int64(m)), uint(8*(bits>>24)))
	t.Rsh(t, 24)
	if bits>>23&1 == 1 || t.Sign() == 0 || t.BitLen() > 256 {
		return nil
	}
	return t
}

// written answers a target's bits, by the bytes that the library writes it with.
func written(a *big.Int) uint32 {
	b := a.Bytes() // the highest first
	size := uint32(len(b))
	b = append(b, 0, 0, 0)
	if b[0] >= 0x80 {
		return (size+1)<<24 | uint32(b[0])<<8 | uint32(b[1])
	}
	return size<<24 | uint32(b[0])<<16 | uint32(b[1])<<8 | uint32(b[2])
}

// does tells, by the library: does a header's hash meet its bits?
func does(h header.Header) bool {
	hash := hashOf(h)
	slices.Reverse(hash[:])
	most := told(h.Bits)
	return most != nil && new(big.Int).SetBytes(hash[:]).Cmp(most) <= 0
}

// mined answers a header with the first nonce with which it has work, or, if it isn't to, has none.
func mined(t testing.TB, h header.Header, works bool) header.Header {
	t.Helper()
	for range 1 << 18 {
		if does(h) == works {
			return h
		}
		h.Nonce++
	}
	t.Fatalf("no nonce does it: %+v", h)
	return h
}

// bigOf answers a wide number as the library has it.
func bigOf(a wide.Wide) *big.Int {
	b := a.Bytes()
	slices.Reverse(b[:])
	return new(big.Int).SetBytes(b[:])
}

// known is a block of a model.
type known struct {
	head   header.Header
	hash   digest.Hash
	ahead  int // which one of the model's blocks; -1 of the first one
	height int
	work   *big.Int
}

// model is a slow tree, by the chapter's words: blocks in the order in which they were added, out of which each answer is found anew.
type model struct {
	rules adjust.Rules
	all   []known
}

func newModel(r adjust.Rules) *model {
	m := &model{rules: r}
	m.put(r.First, -1)
	return m
}

// put takes a block in, behind one.
func (m *model) put(h header.Header, ahead int) {
	k := known{head: h, hash: hashOf(h), ahead: ahead, work: new(big.Int).Lsh(big.NewInt(1), 256)}
	k.work.Div(k.work, new(big.Int).Add(told(h.Bits), big.NewInt(1)))
	if ahead >= 0 {
		k.height = m.all[ahead].height + 1
		k.work.Add(k.work, m.all[ahead].work)
	}
	m.all = append(m.all, k)
}

// find answers which block has a hash, or -1.
func (m *model) find(h digest.Hash) int {
	return slices.IndexFunc(m.all, func(k known) bool { return k.hash == h })
}

// line answers a block, and all ahead of it, it first.
func (m *model) line(i int) []int {
	var l []int
	for ; i >= 0; i = m.all[i].ahead {
		l = append(l, i)
	}
	return l
}

// times answers those of up to 11 blocks, a block and those ahead of it, in order.
func (m *model) times(i int) []uint32 {
	var l []uint32
	for _, j := range m.line(i)[:min(11, m.all[i].height+1)] {
		l = append(l, m.all[j].head.Time)
	}
	slices.Sort(l)
	return l
}

// median answers the time above which that of a block behind this one must be.
func (m *model) median(i int) uint32 {
	l := m.times(i)
	return l[len(l)/2]
}

// bits answers those of a block behind this one.
func (m *model) bits(i int) uint32 {
	every, span := m.rules.Every, int64(m.rules.Span)
	at := m.all[i].head
	height := m.all[i].height + 1
	if height%every != 0 {
		return at.Bits
	}
	since := m.all[m.line(i)[every-1]]
	if since.height != height-every {
		panic("the model is wrong")
	}
	took := int64(at.Time) - int64(since.head.Time)
	took = max(took, span/4, 1)
	took = min(took, 4*span)
	next := new(big.Int).Mul(told(at.Bits), big.NewInt(took))
	next.Div(next, big.NewInt(span))
	switch most := told(m.rules.Limit); {
	case next.Cmp(most) > 0:
		next = most
	case next.Sign() == 0:
		next = big.NewInt(1)
	}
	return written(next)
}

// tips answers the blocks that have none behind them.
func (m *model) tips() []int {
	has := map[int]bool{}
	for _, k := range m.all {
		has[k.ahead] = true
	}
	var l []int
	for i := range m.all {
		if !has[i] {
			l = append(l, i)
		}
	}
	return l
}

// best answers which block has the most work, the first one of them.
func (m *model) best() int {
	best := 0
	for i, k := range m.all {
		if k.work.Cmp(m.all[best].work) > 0 {
			best = i
		}
	}
	return best
}

// chain answers the best chain, the first block first.
func (m *model) chain() []int {
	l := m.line(m.best())
	slices.Reverse(l)
	return l
}

// fork answers the height of the last block in the lines of both.
func (m *model) fork(i, j int) int {
	other := m.line(j)
	for _, k := range m.line(i) {
		if slices.Contains(other, k) {
			return m.all[k].height
		}
	}
	panic("the model is wrong")
}

// add takes a block in, or answers why not.
func (m *model) add(h header.Header) api.Errno {
	ahead := m.find(h.Ahead)
	switch {
	case m.find(hashOf(h)) >= 0:
		return api.ErrSame
	case ahead < 0:
		return api.ErrOrphan
	case h.Bits != m.bits(ahead):
		return api.ErrTarget
	case !does(h):
		return api.ErrWork
	case h.Time <= m.median(ahead):
		return api.ErrTime
	case len(m.all) >= 4096:
		return api.ErrFull
	}
	if tips := m.tips(); !slices.Contains(tips, ahead) && len(tips) >= 16 {
		return api.ErrFull
	}
	m.put(h, ahead)
	return api.OK
}

// strangers are hashes of which a tree has no block.
func (m *model) strangers() []digest.Hash {
	l := []digest.Hash{{}, {31: 1}, m.rules.First.Ahead, m.rules.First.Root}
	for _, i := range []int{0, len(m.all) / 2, len(m.all) - 1} {
		for _, at := range []int{0, 15, 31} {
			h := m.all[i].hash
			h[at] ^= 1
			l = append(l, h)
		}
	}
	return slices.DeleteFunc(l, func(h digest.Hash) bool { return m.find(h) >= 0 })
}

// mustAgree checks all that a tree tells against a model.
func mustAgree(t testing.TB, x *Tree, m *model) {
	t.Helper()
	mustAgreeInAll(t, x, m)
	for i := range m.all {
		mustAgreeAt(t, x, m, i)
	}
	step := 1 + len(m.all)/12
	for i := 0; i < len(m.all); i += step {
		for j := (i % 3) * step / 3; j < len(m.all); j += step {
			mustFork(t, x, m.all[i].hash, m.all[j].hash, m.fork(i, j), true)
		}
	}
	for _, h := range m.strangers() {
		mustMiss(t, x, h)
		mustFork(t, x, h, h, 0, false)
		mustFork(t, x, h, m.all[0].hash, 0, false)
		mustFork(t, x, m.all[len(m.all)-1].hash, h, 0, false)
	}
}

// mustAgreeInAll checks what a tree tells of no block that it's given.
func mustAgreeInAll(t testing.TB, x *Tree, m *model) {
	t.Helper()
	chain := m.chain()
	if got, want := x.Best(), m.all[m.best()].hash; got != want {
		t.Errorf("Best is %x, want %x", got, want)
	}
	if got, want := x.Len(), len(m.all); got != want {
		t.Errorf("Len is %d, want %d", got, want)
	}
	if got, want := x.Tips(), len(m.tips()); got != want {
		t.Errorf("Tips is %d, want %d", got, want)
	}
	var want []digest.Hash
	for height, i := range chain {
		want = append(want, m.all[i].hash)
		mustAt(t, x, height, m.all[i].hash, true)
	}
	for _, height := range []int{-1, len(chain), len(chain) + 1, -len(chain), 5000, 1 << 32, math.MinInt, math.MaxInt} {
		mustAt(t, x, height, digest.Hash{}, false)
	}
	if got := gone(t, x.Chain()); !slices.Equal(got, want) {
		t.Errorf("Chain is %x, want %x", got, want)
	}
}

// mustAgreeAt checks what a tree tells of a block.
func mustAgreeAt(t testing.TB, x *Tree, m *model, i int) {
	t.Helper()
	k := m.all[i]
	if n, ok := x.Height(k.hash); n != k.height || !ok {
		t.Errorf("Height of block %d: %d, %v; want %d", i, n, ok, k.height)
	}
	if h, ok := x.Header(k.hash); h != k.head || !ok {
		t.Errorf("Header of block %d: %+v, %v; want %+v", i, h, ok, k.head)
	}
	if w := x.Work(k.hash); bigOf(w).Cmp(k.work) != 0 {
		t.Errorf("Work of block %d: %x, want %v", i, w, k.work)
	}
	mustBits(t, x, k.hash, m.bits(i), api.OK)
}

func mustBits(t testing.TB, x *Tree, ahead digest.Hash, want uint32, wanted api.Errno) {
	t.Helper()
	if got, e := x.Bits(ahead); got != want || e != wanted {
		t.Errorf("Bits behind %x: %#08x, %d; want %#08x, %d", ahead, got, int(e), want, int(wanted))
	}
}

func mustAt(t testing.TB, x *Tree, height int, want digest.Hash, is bool) {
	t.Helper()
	if got, ok := x.At(height); got != want || ok != is {
		t.Errorf("At %d: %x, %v; want %x, %v", height, got, ok, want, is)
	}
}

func mustFork(t testing.TB, x *Tree, a, b digest.Hash, want int, is bool) {
	t.Helper()
	if got, ok := x.Fork(a, b); got != want || ok != is {
		t.Errorf("Fork of %x and %x: %d, %v; want %d, %v", a, b, got, ok, want, is)
	}
	if got, ok := x.Fork(b, a); got != want || ok != is {
		t.Errorf("Fork of %x and %x, the other way: %d, %v; want %d, %v", a, b, got, ok, want, is)
	}
}

// mustMiss checks what is told of a block that isn't there.
func mustMiss(t testing.TB, x *Tree, h digest.Hash) {
	t.Helper()
	if n, ok := x.Height(h); n != 0 || ok {
		t.Errorf("Height of a block that isn't there: %d, %v", n, ok)
	}
	if head, ok := x.Header(h); head != (header.Header{}) || ok {
		t.Errorf("Header of a block that isn't there: %+v, %v", head, ok)
	}
	if w := x.Work(h); w != (wide.Wide{}) {
		t.Errorf("Work of a block that isn't there: %x", w)
	}
	wanted := api.ErrOrphan
	if x == nil {
		wanted = api.ErrArg
	}
	mustBits(t, x, h, 0, wanted)
}

// gone goes through a chain whole, and checks its heights.
func gone(t testing.TB, l iter.Seq2[int, digest.Hash]) []digest.Hash {
	t.Helper()
	var all []digest.Hash
	for height, h := range l {
		if height != len(all) {
			t.Fatalf("Chain tells height %d, want %d", height, len(all))
		}
		all = append(all, h)
	}
	return all
}

// grower is a tree that grows beside a model.
type grower struct {
	t    testing.TB
	tree *Tree
	m    *model
	made uint32 // so many headers, each of which has a version of its own
	fast bool   // all is compared by hand, as far as it is
}

// rules are such by which the bits don't change.
func rules(t testing.TB) adjust.Rules {
	t.Helper()
	first := mined(t, header.Header{Version: 1, Root: digest.Hash{5: 7}, Time: start, Bits: half}, true)
	return adjust.Rules{Every: 2016, Span: 2015 * pace, Limit: half, Confirm: 2, First: first}
}

// often are rules by which the target is set anew every so many blocks.
func often(t testing.TB, every int, span uint32) adjust.Rules {
	t.Helper()
	r := rules(t)
	r.Every, r.Span = every, span
	return r
}

// from is a tree of the first block alone.
func from(t testing.TB, r adjust.Rules) *grower {
	t.Helper()
	x, e := New(r)
	if x == nil || e != api.OK {
		t.Fatalf("New of %+v: %v, %d", r, x, int(e))
	}
	g := &grower{t: t, tree: x, m: newModel(r)}
	mustAgree(t, x, g.m)
	return g
}

// first answers the hash of the first block.
func (g *grower) first() digest.Hash {
	return g.m.all[0].hash
}

// plain answers a header behind a block, of some time, with the bits that must be, but maybe without work.
func (g *grower) plain(ahead digest.Hash, time uint32) header.Header {
	g.made++
	return header.Header{Version: 100 + g.made, Ahead: ahead, Time: time, Bits: g.m.bits(g.m.find(ahead))}
}

// add adds a header, and checks what comes of it.
func (g *grower) add(h header.Header, wanted api.Errno) {
	g.t.Helper()
	if e := g.m.add(h); e != wanted {
		g.t.Fatalf("the model answers %d of %+v, want %d", int(e), h, int(wanted))
	}
	if e := g.tree.Add(h); e != wanted {
		g.t.Fatalf("Add of %+v: %d, want %d", h, int(e), int(wanted))
	}
	if !g.fast {
		mustAgree(g.t, g.tree, g.m)
	}
}

// try adds a header with work behind a block, of some time, and checks what comes of it.
func (g *grower) try(ahead digest.Hash, time uint32, wanted api.Errno) {
	g.t.Helper()
	g.add(mined(g.t, g.plain(ahead, time), true), wanted)
}

// grow adds blocks behind one, of these times, and answers the last one's hash.
func (g *grower) grow(ahead digest.Hash, times ...uint32) digest.Hash {
	g.t.Helper()
	for _, time := range times {
		h := mined(g.t, g.plain(ahead, time), true)
		g.add(h, api.OK)
		ahead = hashOf(h)
	}
	return ahead
}

// on adds so many blocks behind one, each a pace behind the one ahead of it, and answers all hashes.
func (g *grower) on(ahead digest.Hash, n int) []digest.Hash {
	g.t.Helper()
	var l []digest.Hash
	for range n {
		ahead = g.grow(ahead, g.time(ahead)+pace)
		l = append(l, ahead)
	}
	return l
}

// time answers that of a block.
func (g *grower) time(h digest.Hash) uint32 {
	return g.m.all[g.m.find(h)].head.Time
}

// mustBest checks which block is the best one, and how high it is.
func (g *grower) mustBest(h digest.Hash, height int) {
	g.t.Helper()
	if got := g.tree.Best(); got != h {
		g.t.Errorf("Best is %x, want %x", got, h)
	}
	if n, ok := g.tree.Height(h); n != height || !ok {
		g.t.Errorf("Height of the best one: %d, %v; want %d", n, ok, height)
	}
}

// refused tries a block with each of such bits, all others with work, where nothing else is wrong.
func (g *grower) refused(ahead digest.Hash, time uint32, bits ...uint32) {
	g.t.Helper()
	for _, b := range bits {
		h := g.plain(ahead, time)
		h.Bits = b
		if most := told(b); most != nil && most.BitLen() > 245 {
			h = mined(g.t, h, true)
		}
		g.add(h, api.ErrTarget)
	}
}

// P12.1: New

func TestNewOfTheExample(t *testing.T) {
	r := rules(t)
	x, e := New(r)
	if x == nil || e != api.OK {
		t.Fatalf("New: %v, %d", x, int(e))
	}
	best := x.Best()
	if n, ok := x.Height(best); best != hashOf(r.First) || n != 0 || !ok {
		t.Errorf("the best block is %x, at %d, %v", best, n, ok)
	}
	mustAgree(t, x, newModel(r))
}

// These are blocks of the chain itself.
func TestTheChainsFirstBlocks(t *testing.T) {
	x, e := New(adjust.Rules{Every: 2016, Span: 1209600, Limit: 0x1d00ffff, Confirm: 6, First: header.Header{
		Version: 1, Root: mustParse(t, "4a5e1e4baab89f3a32518a88c31bc87f618f76673e2cc77ab2127b7afdeda33b"),
		Time: 1231006505, Bits: 0x1d00ffff, Nonce: 2083236893,
	}})
	if e != api.OK {
		t.Fatal(e)
	}
	first := mustParse(t, "000000000019d6689c085ae165831e934ff763ae46a2a6c172b3f1b60a8ce26f")
	second := mustParse(t, "00000000839a8e6886ab5951d76f411475428afc90947ee320161bbf18eb6048")
	if x.Best() != first || x.Work(first) != wide.Of(0x100010001) {
		t.Errorf("the first block: %s, %x", x.Best().Text(), x.Work(first))
	}
	h := header.Header{
		Version: 1, Ahead: first, Root: mustParse(t, "0e3e2357e806b6cdb1f70b54c3a3a17b6714ee1f0e68bebb44a74b1efd512098"),
		Time: 1231469665, Bits: 0x1d00ffff, Nonce: 2573394689,
	}
	if e := x.Add(h); e != api.OK || x.Best() != second || x.Work(second) != wide.Of(0x200020002) || x.Len() != 2 {
		t.Errorf("the second block: %d, %s, %x", int(e), x.Best().Text(), x.Work(second))
	}
	h.Nonce++
	if e := x.Add(h); e != api.ErrWork {
		t.Errorf("the second block with another nonce: %d", int(e))
	}
}

// mustParse answers the hash of a text.
func mustParse(t *testing.T, s string) digest.Hash {
	t.Helper()
	h, e := digest.Parse(s)
	if e != api.OK {
		t.Fatalf("Parse of %s: %d", s, int(e))
	}
	return h
}

func TestNewOfRulesThatMayBe(t *testing.T) {
	for _, every := range []int{2, 3, 2015, 2016} {
		for _, span := range []uint32{1, 100, 1 << 31} {
			for _, confirm := range []int{1, 6, 100} {
				for _, limit := range []uint32{half, 0x2100ffff} {
					r := rules(t)
					r.Every, r.Span, r.Confirm, r.Limit = every, span, confirm, limit
					from(t, r)
				}
			}
		}
	}
	r := rules(t)
	r.First = mined(t, header.Header{Version: last, Ahead: digest.Hash{3: 3}, Root: digest.Hash{4: 4}, Time: last, Bits: 0x1f7fffff}, true)
	from(t, r)
}

func TestNewOfRulesThatCantBe(t *testing.T) {
	idle := mined(t, header.Header{Bits: half}, false)
	over := mined(t, header.Header{Bits: 0x2100ffff}, true)
	for _, c := range []struct {
		change func(r *adjust.Rules)
		wanted api.Errno
	}{
		{func(r *adjust.Rules) { r.Every = 1 }, api.ErrArg},
		{func(r *adjust.Rules) { r.Every = 2017 }, api.ErrArg},
		{func(r *adjust.Rules) { r.Every = math.MinInt }, api.ErrArg},
		{func(r *adjust.Rules) { r.Span = 0 }, api.ErrArg},
		{func(r *adjust.Rules) { r.Span = 1<<31 + 1 }, api.ErrArg},
		{func(r *adjust.Rules) { r.Confirm = 0 }, api.ErrArg},
		{func(r *adjust.Rules) { r.Confirm = 101 }, api.ErrArg},
		{func(r *adjust.Rules) { r.Limit = 0 }, api.ErrTarget},
		{func(r *adjust.Rules) { r.Limit = last }, api.ErrTarget},
		{func(r *adjust.Rules) { r.Limit = 0x207ffffe }, api.ErrTarget},
		{func(r *adjust.Rules) { r.First = header.Header{} }, api.ErrTarget},
		{func(r *adjust.Rules) { r.First = over }, api.ErrTarget},
		{func(r *adjust.Rules) { r.First = idle }, api.ErrWork},
		{func(r *adjust.Rules) { r.First, r.Limit = idle, 0 }, api.ErrTarget},
		{func(r *adjust.Rules) { r.First, r.Limit, r.Span = idle, 0, 0 }, api.ErrArg},
		{func(r *adjust.Rules) { *r = adjust.Rules{} }, api.ErrArg},
	} {
		r := rules(t)
		c.change(&r)
		if x, e := New(r); x != nil || e != c.wanted || e != r.Check() {
			t.Errorf("New of %+v: %v, %d; want %d", r, x, int(e), int(c.wanted))
		}
	}
}

// P12.1: Add, by where the block is

func TestAddBehindTheBest(t *testing.T) {
	g := from(t, rules(t))
	for i, h := range g.on(g.first(), 30) {
		mustAt(t, g.tree, i+1, h, true)
	}
	if g.tree.Tips() != 1 || g.tree.Len() != 31 {
		t.Errorf("%d tips, %d blocks", g.tree.Tips(), g.tree.Len())
	}
}

func TestAddBehindBlocksOfAnyKind(t *testing.T) {
	g := from(t, rules(t))
	a := g.on(g.first(), 4)
	g.mustBest(a[3], 4)
	b := g.on(g.first(), 2) // behind the first one
	g.mustBest(a[3], 4)
	c := g.on(a[1], 1) // behind one that has blocks behind it
	d := g.on(b[1], 1) // behind a tip that isn't the best one
	e := g.on(b[0], 1) // behind a block of a fork
	if g.tree.Tips() != 4 || g.tree.Len() != 10 {
		t.Errorf("%d tips, %d blocks", g.tree.Tips(), g.tree.Len())
	}
	g.mustBest(a[3], 4)
	f := g.on(d[0], 2) // two more, and the fork is longer
	g.mustBest(f[1], 5)
	mustAt(t, g.tree, 1, b[0], true)
	mustFork(t, g.tree, a[3], c[0], 2, true)
	mustFork(t, g.tree, c[0], e[0], 0, true)
	mustFork(t, g.tree, e[0], f[1], 1, true)
	i := g.on(a[3], 2) // and back
	g.mustBest(i[1], 6)
	mustAt(t, g.tree, 1, a[0], true)
}

func TestAddTheSameAgain(t *testing.T) {
	g := from(t, rules(t))
	g.add(g.m.rules.First, api.ErrSame) // though none is ahead of it
	a := g.on(g.first(), 3)
	b := g.on(a[0], 2)
	for _, h := range slices.Concat(a, b, []digest.Hash{g.first()}) {
		g.add(g.m.all[g.m.find(h)].head, api.ErrSame)
	}
	other := g.m.all[2].head // another nonce makes it another block
	other.Nonce++
	g.add(mined(t, other, true), api.OK)
}

func TestAddWithoutTheOneAhead(t *testing.T) {
	r := rules(t)
	r.First.Ahead = digest.Hash{9: 9}
	r.First = mined(t, r.First, true)
	g := from(t, r)
	a := g.on(g.first(), 3)
	for _, ahead := range g.m.strangers() {
		h := g.plain(a[2], g.time(a[2])+pace)
		h.Ahead = ahead
		g.add(mined(t, h, true), api.ErrOrphan)
	}
	between := mined(t, g.plain(a[2], g.time(a[2])+pace), true)
	behind := mined(t, header.Header{Ahead: hashOf(between), Time: between.Time + pace, Bits: half}, true)
	g.add(behind, api.ErrOrphan)
	g.add(between, api.OK)
	g.add(behind, api.OK) // it wasn't kept, but may come again
}

// P12.1: bits

func TestBitsStayWhileTheTargetIsNotSetAnew(t *testing.T) {
	for _, bits := range []uint32{half, 0x203fffff, 0x1f7fffff, 0x21007f00} { // the last one has a greater exponent than it needs
		r := rules(t)
		r.First = mined(t, header.Header{Time: start, Bits: bits}, true)
		g := from(t, r)
		h := g.first()
		for range 3 {
			mustBits(t, g.tree, h, bits, api.OK)
			g.refused(h, g.time(h)+pace, 0, bits+1, bits-1, bits|1<<23, 0x207f0000, 0x207ffffe, 0x2100ffff, last)
			h = g.grow(h, g.time(h)+pace)
		}
	}
}

// Each row has the times of blocks behind the first one, that has 1000, and the bits that are asked behind each one.
func TestBitsByHand(t *testing.T) {
	for _, c := range []struct {
		every int
		span  uint32
		times []uint32
		bits  []uint32 // the first one is that behind the first block
	}{
		{2, 100, []uint32{1050, 1150, 1350}, []uint32{half, 0x203fffff, 0x203fffff, 0x207ffffe}},
		{2, 100, []uint32{1100, 1101, 1201}, []uint32{half, half, half, half}},
		{2, 100, []uint32{1025, 1026, 1226}, []uint32{half, 0x201fffff, 0x201fffff, 0x203ffffe}},
		{2, 100, []uint32{1001, 2001, 2002}, []uint32{half, 0x201fffff, 0x201fffff, 0x2007ffff}}, // no less than a quarter
		{2, 100, []uint32{1025, 2000, 3000}, []uint32{half, 0x201fffff, 0x201fffff, 0x207ffffc}}, // no more than four times
		{2, 100, []uint32{1500}, []uint32{half, half}},                                           // no more than the limit
		{3, 100, []uint32{1010, 1050, 1090, 1099, 1190}, []uint32{half, half, 0x203fffff, 0x203fffff, 0x203fffff, 0x203fffff}},
		{3, 100, []uint32{1040, 1050, 1090, 1130, 1140, 1150}, []uint32{half, half, 0x203fffff, 0x203fffff, 0x203fffff, 0x201fffff, 0x201fffff}},
		{5, 1000, []uint32{1200, 1300, 1400, 1500, 2000}, []uint32{half, half, half, half, 0x203fffff, 0x203fffff}},
	} {
		t.Run(fmt.Sprint(c.every, c.times), func(t *testing.T) {
			g := from(t, often(t, c.every, c.span))
			h := g.first()
			mustBits(t, g.tree, h, c.bits[0], api.OK)
			for i, time := range c.times {
				h = g.grow(h, time)
				mustBits(t, g.tree, h, c.bits[i+1], api.OK)
			}
		})
	}
}

// At the heights just ahead of, at and just behind those at which the target is set anew, the old bits and the new ones are both tried.
func TestBitsAroundAHeight(t *testing.T) {
	for _, every := range []int{2, 3, 4, 7, 12} {
		span := uint32(every * pace)
		g := from(t, often(t, every, span))
		h := g.first()
		for height := 1; height <= 2*every+2; height++ {
			ahead := g.m.all[g.m.find(h)].head
			must := g.m.bits(g.m.find(h))
			if (must != ahead.Bits) != (height%every == 0) {
				t.Fatalf("every %d, height %d: %#08x behind %#08x", every, height, must, ahead.Bits)
			}
			time := ahead.Time + pace/2 + uint32(height) // each gap of its own
			others := []uint32{ahead.Bits, half, must + 1, must - 1, must ^ 1<<24}
			g.refused(h, time, slices.DeleteFunc(others, func(b uint32) bool { return b == must })...)
			h = g.grow(h, time)
		}
	}
}

// On a fork the times of the fork itself count: the block from which the time counts is ahead of where it forks, just there, or behind.
func TestBitsOnAFork(t *testing.T) {
	const every = 4
	for at := range 2 * every {
		g := from(t, often(t, every, every*pace))
		trunk := append([]digest.Hash{g.first()}, g.on(g.first(), 2*every+2)...)
		h := trunk[at]
		seen := map[uint32]bool{}
		for range 2*every + 3 - at {
			h = g.grow(h, g.time(h)+pace*2/3)
			must, e := g.tree.Bits(h)
			if e != api.OK {
				t.Fatal(e)
			}
			seen[must] = true
		}
		if len(seen) < 2 {
			t.Errorf("the bits behind a fork at %d: %v", at, seen)
		}
		mustFork(t, g.tree, h, trunk[2*every+2], at, true)
	}
}

func TestBitsOfTwoBranchesByHand(t *testing.T) {
	g := from(t, often(t, 2, 100))
	a := g.grow(g.first(), 1050)
	b := g.grow(g.first(), 1030)
	mustBits(t, g.tree, a, 0x203fffff, api.OK)
	mustBits(t, g.tree, b, 0x20266666, api.OK) // 30 in 100 of 7fffff
	c := g.grow(a, 1100, 1125)                 // from 1100 on: a quarter
	d := g.grow(a, 1060, 1125)                 // from 1060 on: 65 in 100 of 3fffff
	mustBits(t, g.tree, c, 0x200fffff, api.OK)
	mustBits(t, g.tree, d, 0x20299998, api.OK)
	g.refused(c, 1200, 0x20299998, 0x203fffff)
	g.refused(d, 1200, 0x200fffff, 0x203fffff)
}

// Times may go back, as long as they are above the middle one.
func TestBitsOfATimeBelowNothing(t *testing.T) {
	g := from(t, often(t, 2, 100))
	h := g.grow(g.first(), 5000, 6000, 5001)
	mustBits(t, g.tree, h, 0x201fffff, api.OK) // -999 seconds are taken as 25
	h = g.grow(h, 5002, 5002)
	mustBits(t, g.tree, h, 0x2007ffff, api.OK) // and 0 seconds too
}

// Times are up to 2^32 - 1 apart, either way.
func TestBitsOfTheGreatestTimes(t *testing.T) {
	r := often(t, 2, 1<<31)
	r.First = mined(t, header.Header{Bits: 0x201fffff}, true)
	g := from(t, r)
	h := g.grow(g.first(), last)
	mustBits(t, g.tree, h, 0x203ffffd, api.OK) // just less than twice
	for _, time := range []uint32{0, 1, 1 << 31, last - 1, last} {
		g.try(h, time, api.ErrTime) // nothing is above the greatest time
	}
	r = often(t, 2, 100)
	r.First = mined(t, header.Header{Bits: half}, true)
	g = from(t, r)
	h = g.grow(g.first(), 1)
	mustBits(t, g.tree, h, 0x201fffff, api.OK)
	h = g.grow(h, last, 150)
	mustBits(t, g.tree, h, 0x2007ffff, api.OK) // from 2^32 - 1 to 150
}

func TestBitsAreThoseThatAreTaken(t *testing.T) {
	g := from(t, often(t, 3, 300))
	h := g.first()
	for i := range 20 {
		bits, e := g.tree.Bits(h)
		if e != api.OK {
			t.Fatal(e)
		}
		head := mined(t, header.Header{Version: uint32(i), Ahead: h, Time: g.time(h) + 70 + uint32(i*i), Bits: bits}, true)
		g.add(head, api.OK)
		h = hashOf(head)
	}
}

// P12.1: work

func TestAddWithoutWork(t *testing.T) {
	g := from(t, often(t, 2, 100))
	h := g.first()
	for i := range 6 {
		for range 3 {
			g.add(mined(t, g.plain(h, g.time(h)+20+uint32(i)), false), api.ErrWork)
		}
		h = g.grow(h, g.time(h)+20+uint32(i))
	}
}

// The limit isn't what a hash must meet, but the block's own bits are.
func TestAddWithWorkForOtherBits(t *testing.T) {
	g := from(t, often(t, 2, 100))
	h := g.grow(g.first(), 1001)
	for range 20 {
		x := g.plain(h, 1100)
		for x = mined(t, x, false); !meetsAll(x, half); x.Nonce++ {
		}
		if !does(x) {
			g.add(x, api.ErrWork)
		}
	}
}

// meetsAll tells: does a header's hash meet other bits?
func meetsAll(h header.Header, bits uint32) bool {
	hash := hashOf(h)
	slices.Reverse(hash[:])
	return new(big.Int).SetBytes(hash[:]).Cmp(told(bits)) <= 0
}

// P12.1: times

// Each row has the times of all blocks, the first one among them, and that above which the next one's must be.
func TestTimesByHand(t *testing.T) {
	for _, c := range []struct {
		times  []uint32
		median uint32
	}{
		{[]uint32{1000}, 1000},
		{[]uint32{0}, 0},
		{[]uint32{1000, 1100}, 1100},
		{[]uint32{1000, 1001}, 1001},
		{[]uint32{1000, 1100, 1200}, 1100},
		{[]uint32{1000, 1100, 1200, 1101}, 1101},
		{[]uint32{1, 2, 3, 4, 5, 6, 7, 8, 9, 10}, 6},
		{[]uint32{1, 2, 3, 4, 5, 6, 7, 8, 9, 10, 11}, 6},
		{[]uint32{1, 2, 3, 4, 5, 6, 7, 8, 9, 10, 11, 12}, 7},
		{[]uint32{1, 2, 3, 4, 5, 6, 7, 8, 9, 10, 11, 12, 13}, 8},
		{[]uint32{1, 2, 100, 3, 4, 5, 6, 7, 8, 9, 10, 11, 12}, 8},
		{[]uint32{1, 2, 100, 3, 4, 5, 6, 7, 8, 9, 10, 11, 12, 13}, 8},
		{[]uint32{1, 90, 91, 100, 92, 99, 93, 93, 120, 94}, 93},
		{[]uint32{1, 90, 91, 100, 92, 99, 93, 93, 120, 94, 94}, 93},
		{[]uint32{1, 90, 91, 100, 92, 99, 93, 93, 120, 94, 94, 95}, 94},
		{[]uint32{1, 90, 91, 100, 92, 99, 93, 93, 120, 94, 94, 95, 95}, 94},
		{[]uint32{10, last - 1, last}, last - 1},
	} {
		t.Run(fmt.Sprint(c.times), func(t *testing.T) {
			r := rules(t)
			r.First = mined(t, header.Header{Time: c.times[0], Bits: half}, true)
			g := from(t, r)
			h := g.grow(g.first(), c.times[1:]...)
			for _, time := range []uint32{0, min(1, c.median), c.median / 2, c.median - min(1, c.median), c.median} {
				g.try(h, time, api.ErrTime)
			}
			for _, time := range []uint32{c.median + 1, c.median + 1 + (last-c.median-1)/2, last} {
				g.try(h, time, api.OK)
			}
		})
	}
}

// The times of a fork itself count, not those of the best chain, nor those of other blocks.
func TestTimesOnAFork(t *testing.T) {
	g := from(t, rules(t))
	a := g.on(g.first(), 8)
	b := g.grow(a[1], 9000, 9001, 9002, 9003, 9004)
	g.try(b, 9000, api.ErrTime) // 1000, 1100, 1200, 9000 and so on
	g.try(b, 9001, api.ErrTime)
	g.try(a[7], 9001, api.OK)
	g.try(a[7], 1400, api.ErrTime) // 1000 to 1800
	g.try(a[7], 1401, api.OK)
	g.try(b, 9002, api.OK)
}

// P12.2: which one is the best

// By these, a block that comes 10 seconds behind the first one makes the next one four times as heavy, and one that comes 100 seconds behind it doesn't.
func TestMoreBlocksWithLessWork(t *testing.T) {
	g := from(t, often(t, 2, 100))
	a := g.grow(g.first(), 1010, 1110) // 2, 4 and 12
	mustWork(t, g.tree, a, 12)
	g.mustBest(a, 2)
	b := g.grow(g.first(), 1100, 1200, 1300, 1400)
	mustWork(t, g.tree, b, 10)
	g.mustBest(a, 2) // though the other has two blocks more
	b = g.grow(b, 1500)
	mustWork(t, g.tree, b, 12)
	g.mustBest(a, 2) // it came first
	c := g.grow(g.first(), 1100, 1200, 1300, 1400, 1500)
	g.mustBest(a, 2)
	d := g.grow(c, 1600)
	mustWork(t, g.tree, d, 14)
	g.mustBest(d, 6)
	b = g.grow(b, 1600)
	mustWork(t, g.tree, b, 14)
	g.mustBest(d, 6)
	a = g.grow(a, 1210)
	mustWork(t, g.tree, a, 20)
	g.mustBest(a, 3)
	mustAt(t, g.tree, 4, digest.Hash{}, false) // the best chain is shorter now
}

func TestAsMuchWorkWithMoreBlocksFirst(t *testing.T) {
	g := from(t, often(t, 2, 100))
	b := g.grow(g.first(), 1100, 1200, 1300, 1400, 1500)
	a := g.grow(g.first(), 1010, 1110)
	mustWork(t, g.tree, a, 12)
	mustWork(t, g.tree, b, 12)
	g.mustBest(b, 5)
	a = g.grow(a, 1210)
	g.mustBest(a, 3)
	b = g.grow(b, 1600, 1700, 1800)
	mustWork(t, g.tree, b, 18)
	g.mustBest(a, 3)
	b = g.grow(b, 1900)
	mustWork(t, g.tree, b, 20)
	g.mustBest(a, 3)
	b = g.grow(b, 2000)
	g.mustBest(b, 10)
}

// mustWork checks a small work.
func mustWork(t testing.TB, x *Tree, h digest.Hash, want uint64) {
	t.Helper()
	if got := x.Work(h); got != wide.Of(want) {
		t.Errorf("Work is %x, want %d", got, want)
	}
}

func TestOfAsMuchWorkTheFirst(t *testing.T) {
	g := from(t, rules(t))
	one := g.grow(g.first(), 1100)
	for range 5 {
		g.grow(g.first(), 1100)
		g.mustBest(one, 1)
	}
	two := g.grow(g.m.all[4].hash, 1200) // the first of two
	g.mustBest(two, 2)
	g.grow(one, 1200)
	g.mustBest(two, 2)
}

// What isn't the best one's least byte may be the work's greatest: work counts whole.
func TestWorkOfGreatNumbers(t *testing.T) {
	r := often(t, 2, 100)
	r.First = mined(t, header.Header{Time: start, Bits: 0x1f00ffff}, true)
	r.Limit = 0x1f00ffff
	g := from(t, r)
	a := g.grow(g.first(), 1100)
	if got, want := g.tree.Work(a), wide.Of(2*0x10001); got != want {
		t.Errorf("Work is %x, want %x", got, want)
	}
}

// P12.1: ErrFull

func TestMaxForks(t *testing.T) {
	g := from(t, rules(t))
	trunk := g.on(g.first(), 2)
	tips := []digest.Hash{trunk[1]}
	for i := 1; i < api.MaxForks; i++ {
		tips = append(tips, g.grow([]digest.Hash{g.first(), trunk[0]}[i%2], 2000))
	}
	if g.tree.Tips() != 16 {
		t.Fatalf("%d tips", g.tree.Tips())
	}
	for _, ahead := range []digest.Hash{g.first(), trunk[0]} {
		g.try(ahead, 2000, api.ErrFull)
	}
	for i, ahead := range tips { // each tip may grow, and what it was is none any more
		tips[i] = g.grow(ahead, 3000)
		g.try(ahead, 3000, api.ErrFull)
	}
	for i, ahead := range tips {
		tips[i] = g.grow(ahead, 4000)
	}
	g.try(g.m.all[7].hash, 4000, api.ErrFull)
	if g.tree.Tips() != 16 {
		t.Errorf("%d tips", g.tree.Tips())
	}
}

// The first block is a tip too, as long as it is alone.
func TestMaxForksBehindTheFirst(t *testing.T) {
	g := from(t, rules(t))
	for i := range 16 {
		g.grow(g.first(), 2000)
		if g.tree.Tips() != i+1 {
			t.Errorf("%d tips, want %d", g.tree.Tips(), i+1)
		}
	}
	g.try(g.first(), 2000, api.ErrFull)
}

func TestMaxHeaders(t *testing.T) {
	g := from(t, rules(t))
	g.fast = true
	h := g.on(g.first(), 4000)[3999]
	side := g.grow(h, g.time(h)+pace)
	other := g.on(h, 93)[92]
	mustAgreeInAll(t, g.tree, g.m)
	g.grow(other, g.time(other)+pace)
	if g.tree.Len() != 4096 {
		t.Fatalf("%d blocks", g.tree.Len())
	}
	mustAgreeInAll(t, g.tree, g.m)
	for _, ahead := range []digest.Hash{g.first(), h, side, other, g.tree.Best()} {
		g.try(ahead, g.time(g.tree.Best())+pace, api.ErrFull)
	}
	g.add(g.m.all[4095].head, api.ErrSame)
	g.add(g.m.rules.First, api.ErrSame)
	g.add(mined(t, header.Header{Bits: half}, true), api.ErrOrphan)
	g.refused(other, g.time(other)+pace, 0x203fffff, 0)
	g.add(mined(t, g.plain(other, g.time(other)+pace), false), api.ErrWork)
	g.try(other, start, api.ErrTime)
	mustAgree(t, g.tree, g.m)
}

// P12.1: several errors at once

// crowded is a tree with as many tips as there may be, the hash of a block that has blocks behind it, and that of a tip.
func crowded(t testing.TB) (g *grower, between, tip digest.Hash) {
	t.Helper()
	g = from(t, rules(t))
	g.fast = true
	a := g.on(g.first(), 3)
	for range 15 {
		g.grow(a[1], 2000)
	}
	g.fast = false
	return g, a[0], a[2]
}

func TestWhichErrorGoesAhead(t *testing.T) {
	order := []api.Errno{api.ErrOrphan, api.ErrTarget, api.ErrWork, api.ErrTime, api.ErrFull}
	g, between, tip := crowded(t)
	for errors := range 1 << len(order) {
		is := func(e api.Errno) bool { return errors>>slices.Index(order, e)&1 == 1 }
		h := g.plain(tip, 5000)
		if is(api.ErrFull) {
			h.Ahead = between
		}
		if is(api.ErrOrphan) {
			h.Ahead = digest.Hash{1: 1}
		}
		if is(api.ErrTarget) {
			h.Bits = 0x203fffff
		}
		if is(api.ErrTime) {
			h.Time = 1000
		}
		h = mined(t, h, !is(api.ErrWork))
		wanted := api.OK
		if i := slices.IndexFunc(order, is); i >= 0 {
			wanted = order[i]
		}
		g.add(h, wanted)
		if wanted == api.OK {
			tip = hashOf(h)
		}
		if is(api.ErrTarget) && !is(api.ErrOrphan) { // bits that tell no target at all are such, too
			for _, bits := range []uint32{0, 0x00800000, last, 0x21010000} {
				h.Bits = bits
				g.add(h, api.ErrTarget)
			}
		}
	}
}

// That it is there already goes ahead of all.
func TestTheSameGoesAhead(t *testing.T) {
	g, _, _ := crowded(t)
	for _, k := range g.m.all { // the first one is without one ahead, others are such that there is no room for one more
		g.add(k.head, api.ErrSame)
	}
}

// P12.2

func TestForkByHand(t *testing.T) {
	g := from(t, rules(t))
	a := g.on(g.first(), 5)
	b := g.on(a[1], 2) // at 3 and 4
	c := g.on(b[0], 6) // at 4 to 9
	d := g.on(g.first(), 1)
	for _, x := range []struct {
		a, b   digest.Hash
		height int
	}{
		{g.first(), g.first(), 0},
		{a[4], a[4], 5},
		{b[1], b[1], 4},
		{a[4], g.first(), 0},
		{a[4], a[0], 1},
		{a[4], a[3], 4},
		{c[5], b[0], 3},
		{c[5], a[1], 2},
		{c[5], a[2], 2},
		{c[5], a[4], 2},
		{b[1], a[4], 2},
		{b[1], c[5], 3},
		{b[1], c[0], 3},
		{d[0], c[5], 0},
		{d[0], a[0], 0},
		{d[0], d[0], 1},
	} {
		mustFork(t, g.tree, x.a, x.b, x.height, true)
	}
	mustFork(t, g.tree, d[0], digest.Hash{}, 0, false)
	mustFork(t, g.tree, digest.Hash{}, digest.Hash{}, 0, false)
}

func TestOfBlocksOffTheBestChain(t *testing.T) {
	g := from(t, rules(t))
	a := g.on(g.first(), 3)
	b := g.on(g.first(), 2)
	for i, h := range b {
		if n, ok := g.tree.Height(h); n != i+1 || !ok {
			t.Errorf("Height: %d, %v", n, ok)
		}
		mustAt(t, g.tree, i+1, a[i], true)
		if w := g.tree.Work(h); w != g.tree.Work(a[i]) {
			t.Errorf("Work: %x", w)
		}
		if head, ok := g.tree.Header(h); hashOf(head) != h || !ok {
			t.Errorf("Header: %+v, %v", head, ok)
		}
		mustBits(t, g.tree, h, half, api.OK)
	}
}

func TestChainLeftEarly(t *testing.T) {
	g := from(t, rules(t))
	g.on(g.first(), 9)
	g.on(g.m.all[3].hash, 3)
	chain := g.tree.Chain()
	whole := gone(t, chain)
	for n := range 10 {
		var some []digest.Hash
		for height, h := range chain {
			some = append(some, h)
			if height == n {
				break
			}
		}
		if !slices.Equal(some, whole[:n+1]) {
			t.Errorf("left at %d: %x", n, some)
		}
		if again := gone(t, chain); len(again) != 10 || !slices.Equal(again, whole) {
			t.Errorf("gone through again: %x", again)
		}
	}
	for i, h := range chain { // one within another
		if again := gone(t, g.tree.Chain()); again[i] != h {
			t.Errorf("at %d: %x, want %x", i, again[i], h)
		}
	}
}

// What a chain tells is the best one as it was when it was asked for.
func TestChainOfATreeThatGrows(t *testing.T) {
	g := from(t, rules(t))
	a := g.on(g.first(), 3)
	before := g.tree.Chain()
	want := gone(t, before)
	n := 0
	for range g.tree.Chain() { // it comes to its end
		g.on(g.tree.Best(), 1)
		n++
	}
	if n != 4 {
		t.Errorf("%d blocks were told", n)
	}
	g.on(a[0], 12) // a turn
	g.on(a[2], 20) // and one back
	if got := gone(t, before); !slices.Equal(got, want) {
		t.Errorf("it tells %x, want %x", got, want)
	}
}

func TestChainOfATreeThatTurns(t *testing.T) {
	for n := 2; n < 20; n++ {
		g := from(t, rules(t))
		a := g.on(g.first(), n)
		before := g.tree.Chain()
		want := gone(t, before)
		g.on(a[n/2], n-n/2) // a turn by just one block more
		if got := gone(t, before); !slices.Equal(got, want) {
			t.Errorf("of %d blocks it tells %x, want %x", n, got, want)
		}
	}
}

func TestNilTree(t *testing.T) {
	var x *Tree
	r := rules(t)
	for _, h := range []header.Header{{}, r.First, mined(t, header.Header{Ahead: hashOf(r.First), Time: 2000, Bits: half}, true)} {
		if e := x.Add(h); e != api.ErrArg {
			t.Errorf("Add: %d", int(e))
		}
	}
	for _, h := range []digest.Hash{{}, hashOf(r.First), {31: 255}} {
		mustMiss(t, x, h)
		mustFork(t, x, h, h, 0, false)
	}
	for _, height := range []int{math.MinInt, -1, 0, 1, math.MaxInt} {
		mustAt(t, x, height, digest.Hash{}, false)
	}
	if x.Best() != (digest.Hash{}) || x.Tips() != 0 || x.Len() != 0 {
		t.Errorf("%x, %d, %d", x.Best(), x.Tips(), x.Len())
	}
	if l := gone(t, x.Chain()); l != nil {
		t.Errorf("Chain: %x", l)
	}
}

// Of a tree that New didn't make nothing is promised, but that calls end.
func TestTreeThatIsNotMade(t *testing.T) {
	x := &Tree{}
	if x.Add(header.Header{}) == api.OK || x.Best() != (digest.Hash{}) || x.Len() != 0 || gone(t, x.Chain()) != nil {
		t.Error("there is something in it")
	}
	mustMiss(t, x, digest.Hash{})
	mustAt(t, x, 0, digest.Hash{}, false)
	mustFork(t, x, digest.Hash{}, digest.Hash{}, 0, false)
}

// P12.3

// wild adds blocks anywhere, right ones and wrong ones, and checks all that is told behind each one.
func wild(t *testing.T, seed int64, blocks int) (turns int) {
	r := rand.New(rand.NewSource(seed))
	rules := often(t, 2+r.Intn(6), uint32(1+r.Intn(400)))
	if r.Intn(2) == 0 {
		rules.Limit = 0x2100ffff
	}
	g := from(t, rules)
	seen := map[api.Errno]int{}
	for range blocks {
		h := strayed(g, r)
		best := g.tree.Best()
		work := g.tree.Work(best)
		wanted := g.m.add(h)
		e := g.tree.Add(h)
		seen[e]++
		if e != wanted {
			t.Fatalf("seed %d: Add of %+v: %d, want %d", seed, h, int(e), int(wanted))
		}
		mustAgree(t, g.tree, g.m)
		now := g.tree.Best()
		if g.tree.Work(now).Cmp(work) < 0 || e != api.OK && now != best {
			t.Fatalf("seed %d: the best one has the work %x, and had %x", seed, g.tree.Work(now), work)
		}
		if head, _ := g.tree.Header(now); now != best && head.Ahead != best {
			turns++
		}
		if t.Failed() {
			t.Fatalf("seed %d, %d blocks", seed, g.tree.Len())
		}
	}
	if len(seen) < 6 || seen[api.OK] < blocks/3 {
		t.Errorf("seed %d: what was answered: %v", seed, seen)
	}
	return turns
}

// strayed answers a header behind any block, mostly a right one.
func strayed(g *grower, r *rand.Rand) header.Header {
	tips := g.m.tips()
	at := tips[r.Intn(len(tips))]
	switch r.Intn(6) {
	case 0:
		at = r.Intn(len(g.m.all))
	case 1:
		at = g.m.best()
	case 2:
		at = max(0, len(g.m.all)-1-r.Intn(3))
	}
	time := g.m.median(at) + 1 + uint32(r.Intn(int(g.m.rules.Span)))
	if told(g.m.bits(at)).BitLen() < 248 { // else mining would take ever longer
		time = max(time, g.m.all[at].head.Time+20*g.m.rules.Span)
	}
	h := g.plain(g.m.all[at].hash, time)
	works := true
	switch r.Intn(16) {
	case 0:
		h.Ahead[r.Intn(32)] ^= 1 << r.Intn(8)
	case 1:
		h.Bits += uint32(r.Intn(3)) - 1
		works = told(h.Bits) != nil
	case 2:
		works = false
	case 3:
		h.Time = g.m.median(at) - uint32(r.Intn(2))
	case 4:
		return g.m.all[r.Intn(len(g.m.all))].head
	}
	return mined(g.t, h, works)
}

func TestWild(t *testing.T) {
	turns := 0
	for seed := range int64(12) {
		turns += wild(t, seed, 100)
	}
	if turns < 12 {
		t.Errorf("%d turns", turns)
	}
}

// Over a long row of blocks, two branches outdo each other again and again.
func TestBestNeverHasLessWork(t *testing.T) {
	g := from(t, often(t, 5, 5*pace))
	g.fast = true
	r := rand.New(rand.NewSource(99))
	tips := []digest.Hash{g.grow(g.first(), 1050), g.grow(g.first(), 1100), g.grow(g.first(), 1150)}
	work := g.tree.Work(g.tree.Best())
	turned := 0
	for range 600 {
		i := r.Intn(len(tips))
		if r.Intn(2) == 0 { // the one that has done least, so that all stay close
			for j := range tips {
				if g.tree.Work(tips[j]).Cmp(g.tree.Work(tips[i])) < 0 {
					i = j
				}
			}
		}
		before := g.tree.Best()
		time := g.time(tips[i]) + 1 + uint32(r.Intn(3*pace))
		tips[i] = g.grow(tips[i], time)
		now := g.tree.Work(g.tree.Best())
		if now.Cmp(work) < 0 {
			t.Fatalf("the best one's work is %x, and was %x", now, work)
		}
		work = now
		if g.tree.Best() == tips[i] && g.m.all[len(g.m.all)-1].head.Ahead != before {
			turned++
		}
	}
	if turned < 5 {
		t.Errorf("%d turns", turned)
	}
	mustAgree(t, g.tree, g.m)
}

func TestTheSameIsToldOfTheSame(t *testing.T) {
	one, other := from(t, often(t, 3, 300)), from(t, often(t, 3, 300))
	between := from(t, rules(t))
	r := rand.New(rand.NewSource(5))
	for range 40 {
		h := strayed(one, r)
		between.try(between.tree.Best(), between.time(between.tree.Best())+1, api.OK) // another tree changes nothing
		if a, b := one.tree.Add(h), other.tree.Add(h); a != b {
			t.Fatalf("Add: %d and %d", int(a), int(b))
		}
		one.m.add(h)
		mustAgree(t, one.tree, one.m)
		mustAgree(t, other.tree, one.m)
	}
}

// What is handed in, and what was answered, may be changed.
func TestNothingIsShared(t *testing.T) {
	r := rules(t)
	x, e := New(r)
	if e != api.OK {
		t.Fatal(e)
	}
	m := newModel(r)
	kept := r
	h := mined(t, header.Header{Ahead: hashOf(r.First), Time: 2000, Bits: half}, true)
	was := h
	if e := x.Add(h); e != api.OK || h != was {
		t.Fatalf("Add: %d, %+v", int(e), h)
	}
	m.add(h)
	r.Every, r.First.Time, r.First.Bits = 2, 0, 0
	h.Time, h.Bits = 0, 0
	m.rules = kept
	for _, k := range m.all {
		head, _ := x.Header(k.hash)
		head.Time, head.Ahead = 7, digest.Hash{7}
		work := x.Work(k.hash)
		work[0] = 7
		for _, h := range x.Chain() {
			h[0] ^= 7
		}
		best := x.Best()
		best[0] ^= 7
	}
	mustAgree(t, x, m)
}
