package spv

import (
	"bytes"
	"crypto/sha256"
	"encoding/binary"
	"encoding/hex"
	"fmt"
	"math"
	"math/big"
	"math/rand"
	"slices"
	"testing"

	"pontage/adjust"
	"pontage/api"
	"pontage/digest"
	"pontage/header"
	"pontage/lock"
	"pontage/money"
	"pontage/relay"
	"pontage/tx"
)

const (
	half   = 0x207fffff // bits whose target about half of all hashes meet
	pace   = 100        // seconds from block to block
	start  = 1000       // the first block's time
	most   = 1 << 62    // of an amount
	least  = 60         // bytes of a transaction: with one input without a key, and one output without a lock
	leaves = 65536      // transactions of a block, at most
	filler = 0xa5
)

// numbers are the ways of four bytes.
var numbers = []uint32{0, 1, 2, 255, 256, 65535, 65536, 65537, 0x04030201, 1<<31 - 1, 1 << 31, math.MaxUint32}

// row answers so many unlike bytes, the first of which is as told.
func row(first byte, n int) []byte {
	b := make([]byte, n)
	for i := range b {
		b[i] = first + byte(i)
	}
	return b
}

// hashes answers so many unlike hashes.
func hashes(seed byte, n int) []digest.Hash {
	var l []digest.Hash
	for i := range n {
		l = append(l, sha256.Sum256([]byte{seed, byte(i), byte(i >> 8), byte(i >> 16)}))
	}
	return l
}

// doubled answers the library's sum of the sum of bytes.
func doubled(b []byte) digest.Hash {
	once := sha256.Sum256(b)
	return sha256.Sum256(once[:])
}

// pair answers the double sum of two hashes, one behind the other.
func pair(a, b digest.Hash) digest.Hash {
	return doubled(slices.Concat(a[:], b[:]))
}

// count answers the bytes of a count, as chapter 1 has them.
func count(n int) []byte {
	if n < 253 {
		return []byte{byte(n)}
	}
	if n < 65536 {
		return binary.LittleEndian.AppendUint16([]byte{253}, uint16(n))
	}
	return binary.LittleEndian.AppendUint32([]byte{254}, uint32(n))
}

// laid answers a proof's bytes, as the chapter has them.
func laid(p Proof) []byte {
	b := slices.Concat(count(len(p.Tx)), p.Tx, p.Block[:])
	b = binary.LittleEndian.AppendUint32(b, p.Index)
	b = binary.LittleEndian.AppendUint32(b, p.Count)
	b = append(b, count(len(p.Way))...)
	for _, h := range p.Way {
		b = append(b, h[:]...)
	}
	return b
}

// readBack answers the proof of bytes, as the chapter has it: of those that could be, the one whose bytes these are.
func readBack(b []byte) (Proof, bool) {
	var p Proof
	head := 1
	size := 0
	switch {
	case len(b) == 0:
		return p, false
	case b[0] < 253:
		size = int(b[0])
	case b[0] == 253 && len(b) >= 3:
		head, size = 3, int(b[1])|int(b[2])<<8
	}
	if size > 4096 || len(b) < head+size+32+4+4+1 {
		return p, false
	}
	p.Tx = b[head : head+size]
	rest := b[head+size:]
	copy(p.Block[:], rest)
	p.Index = binary.LittleEndian.Uint32(rest[32:])
	p.Count = binary.LittleEndian.Uint32(rest[36:])
	for way := rest[41:]; len(way) >= 32 && len(p.Way) < 16; way = way[32:] {
		p.Way = append(p.Way, digest.Hash(way[:32]))
	}
	return p, bytes.Equal(laid(p), b)
}

// same tells whether two proofs are one; nil and empty lists are.
func same(p, q Proof) bool {
	return bytes.Equal(p.Tx, q.Tx) && p.Block == q.Block && p.Index == q.Index && p.Count == q.Count && slices.Equal(p.Way, q.Way)
}

// none tells whether a proof is its zero value.
func none(p Proof) bool {
	return len(p.Tx) == 0 && p.Block == digest.Hash{} && p.Index == 0 && p.Count == 0 && len(p.Way) == 0
}

// copied answers a proof that shares nothing with another one.
func copied(p Proof) Proof {
	p.Tx, p.Way = bytes.Clone(p.Tx), slices.Clone(p.Way)
	return p
}

// sameTx tells whether two transactions are one; nil and empty lists are.
func sameTx(x, y tx.Tx) bool {
	return x.Version == y.Version && x.LockTime == y.LockTime &&
		slices.EqualFunc(x.Ins, y.Ins, func(a, b tx.In) bool {
			return a.From == b.From && a.Index == b.Index && a.Sequence == b.Sequence && bytes.Equal(a.Key, b.Key)
		}) &&
		slices.EqualFunc(x.Outs, y.Outs, func(a, b tx.Out) bool {
			return a.Pays == b.Pays && bytes.Equal(a.Lock, b.Lock)
		})
}

// noTx tells whether a transaction is its zero value.
func noTx(x tx.Tx) bool {
	return x.Version == 0 && len(x.Ins) == 0 && len(x.Outs) == 0 && x.LockTime == 0
}

// copiedTx answers a transaction that shares nothing with another one.
func copiedTx(x tx.Tx) tx.Tx {
	x.Ins, x.Outs = slices.Clone(x.Ins), slices.Clone(x.Outs)
	for i := range x.Ins {
		x.Ins[i].Key = bytes.Clone(x.Ins[i].Key)
	}
	for i := range x.Outs {
		x.Outs[i].Lock = bytes.Clone(x.Outs[i].Lock)
	}
	return x
}

// at is an address of unlike bytes, the first of which is as told.
func at(first byte) lock.Address {
	return lock.Address(row(first, 20))
}

// to answers the bytes of a lock to an address, as chapter 8 has them.
func to(a lock.Address) []byte {
	return slices.Concat([]byte{118, 169, 20}, a[:], []byte{136, 172})
}

// tagged answers the bytes of a lock that is a tag, as chapter 8 has them.
func tagged(tag string) []byte {
	return slices.Concat([]byte{106, byte(len(tag))}, []byte(tag))
}

// paying answers a transaction of one input with these outputs.
func paying(outs ...tx.Out) tx.Tx {
	return tx.Tx{Version: 1, Ins: []tx.In{{Key: lock.Key(at(200))}}, Outs: outs}
}

// numbered answers a transaction that pays the address of 7 the amount 50 with the tag "tag", unlike that of another number.
func numbered(n int) tx.Tx {
	x := paying(tx.Out{Pays: 50, Lock: to(at(7))}, tx.Out{Lock: tagged("tag")}, tx.Out{Pays: money.Amount(n), Lock: to(at(9))})
	x.LockTime = uint32(n)
	return x
}

// several answers so many unlike transactions, none of them one of another call's with other numbers.
func several(from, n int) []tx.Tx {
	var l []tx.Tx
	for i := range n {
		l = append(l, numbered(from+i))
	}
	return l
}

// sized answers a transaction of so many bytes: its outputs' locks are of noughts.
func sized(t testing.TB, n int) tx.Tx {
	t.Helper()
	x := tx.Tx{Ins: []tx.In{{}}, Outs: []tx.Out{{}}}
	for left := n - least; left > 0; {
		if left <= 252 {
			x.Outs[len(x.Outs)-1].Lock = make([]byte, left)
			break
		}
		x.Outs[len(x.Outs)-1].Lock = make([]byte, 200)
		x.Outs = append(x.Outs, tx.Out{})
		left -= 209
	}
	return x
}

// written answers a transaction's bytes.
func written(t testing.TB, x tx.Tx) []byte {
	t.Helper()
	b, e := x.Bytes()
	if e != api.OK {
		t.Fatalf("%+v: %d", x, int(e))
	}
	return b
}

// idsOf answers transactions' hashes, by the library.
func idsOf(t testing.TB, l []tx.Tx) []digest.Hash {
	t.Helper()
	var ids []digest.Hash
	for _, x := range l {
		ids = append(ids, doubled(written(t, x)))
	}
	return ids
}

// rowsOf answers all rows of hashes, from the lowest one up to the root, as chapter 10 has them.
func rowsOf(l []digest.Hash) [][]digest.Hash {
	rows := [][]digest.Hash{l}
	for len(l) > 1 {
		var up []digest.Hash
		for i := 0; i < len(l); i += 2 {
			up = append(up, pair(l[i], l[min(i+1, len(l)-1)]))
		}
		rows = append(rows, up)
		l = up
	}
	return rows
}

// rootOf answers the root of hashes.
func rootOf(l []digest.Hash) digest.Hash {
	rows := rowsOf(l)
	return rows[len(rows)-1][0]
}

// wayOf answers the way of the i-th of hashes.
func wayOf(l []digest.Hash, i int) []digest.Hash {
	var way []digest.Hash
	rows := rowsOf(l)
	for _, row := range rows[:len(rows)-1] {
		way = append(way, row[min(i^1, len(row)-1)])
		i /= 2
	}
	return way
}

// climbs tells whether a hash by a way climbs to a root, as chapter 10 has it.
func climbs(root, h digest.Hash, i, n int64, way []digest.Hash) bool {
	if n < 1 || n > leaves || i < 0 || i >= n {
		return false
	}
	for ; n > 1; i, n = i/2, n/2+n%2 {
		if len(way) == 0 || (way[0] == h) != (n%2 == 1 && i == n-1) {
			return false
		}
		if i%2 == 1 {
			h = pair(way[0], h)
		} else {
			h = pair(h, way[0])
		}
		way = way[1:]
	}
	return len(way) == 0 && h == root
}

// block is one that was told, with what stands in it.
type block struct {
	head   header.Header
	hash   digest.Hash
	height int
	ahead  int // where the one ahead stands, -1 of the first one
	txs    []tx.Tx
	ids    []digest.Hash
}

// chain is a relay, with all blocks in the order in which they were told, and which of them is the best one.
type chain struct {
	t       testing.TB
	confirm int
	relay   *relay.Relay
	blocks  []block
	best    int
	made    uint32 // so many headers, each of which has a version of its own
}

// mined answers a header with the first nonce with which it has work.
func mined(t testing.TB, h header.Header) header.Header {
	t.Helper()
	m, ok := header.Mine(h, 1<<18)
	if !ok {
		t.Fatalf("no nonce does it: %+v", h)
	}
	return m
}

// begin is a chain whose first block has these transactions.
func begin(t testing.TB, confirm int, txs []tx.Tx) *chain {
	t.Helper()
	ids := idsOf(t, txs)
	first := mined(t, header.Header{Version: 1, Ahead: digest.Hash{2: 9}, Root: rootOf(ids), Time: start, Bits: half})
	r, e := relay.New(adjust.Rules{Every: 2016, Span: 2015 * pace, Limit: half, Confirm: confirm, First: first})
	if e != api.OK {
		t.Fatal(e)
	}
	return &chain{t: t, confirm: confirm, relay: r, blocks: []block{{head: first, hash: doubled(first.Bytes()), ahead: -1, txs: txs, ids: ids}}}
}

// put tells of a block behind another one, with these transactions, and answers where it stands.
func (c *chain) put(ahead int, txs []tx.Tx) int {
	c.t.Helper()
	ids := idsOf(c.t, txs)
	at := c.lay(ahead, rootOf(ids))
	c.blocks[at].txs, c.blocks[at].ids = txs, ids
	return at
}

// lay tells of a block behind another one, with this root, and answers where it stands.
func (c *chain) lay(ahead int, root digest.Hash) int {
	c.t.Helper()
	c.made++
	b := c.blocks[ahead]
	h := mined(c.t, header.Header{Version: 100 + c.made, Ahead: b.hash, Root: root, Time: b.head.Time + pace, Bits: half})
	if _, e := c.relay.Submit(h.Bytes()); e != api.OK {
		c.t.Fatalf("%+v: %d", h, int(e))
	}
	c.blocks = append(c.blocks, block{head: h, hash: doubled(h.Bytes()), height: b.height + 1, ahead: ahead})
	last := len(c.blocks) - 1
	if c.blocks[last].height > c.blocks[c.best].height {
		c.best = last
	}
	return last
}

// bury lays so many blocks, of which nobody looks at what stands in them, behind one, and answers where the last one stands.
func (c *chain) bury(ahead, n int) int {
	c.t.Helper()
	for range n {
		ahead = c.lay(ahead, digest.Hash{0: byte(ahead), 1: 3})
	}
	return ahead
}

// depth answers how many blocks of the best chain aren't below a block; 0, if it isn't in that.
func (c *chain) depth(at int) int {
	n := 1
	for i := c.best; i != at; i = c.blocks[i].ahead {
		if i < 0 {
			return 0
		}
		n++
	}
	return n
}

// proof answers that of the i-th transaction of a block, laid without Make.
func (c *chain) proof(at, i int) Proof {
	b := c.blocks[at]
	return Proof{Tx: written(c.t, b.txs[i]), Block: b.hash, Index: uint32(i), Count: uint32(len(b.ids)), Way: wayOf(b.ids, i)}
}

// wanted answers what Check is to answer.
func (c *chain) wanted(p Proof) (tx.Tx, api.Errno) {
	x, e := tx.Parse(p.Tx)
	if e != api.OK {
		return tx.Tx{}, api.ErrForm
	}
	at := slices.IndexFunc(c.blocks, func(b block) bool { return b.hash == p.Block })
	switch {
	case at < 0:
		return tx.Tx{}, api.ErrNone
	case c.depth(at) < c.confirm:
		return tx.Tx{}, api.ErrDepth
	case !climbs(c.blocks[at].head.Root, doubled(p.Tx), int64(p.Index), int64(p.Count), p.Way):
		return tx.Tx{}, api.ErrProof
	}
	return x, api.OK
}

// must checks what Check answers of a proof, and what Pays does, where the payment is one that any transaction pays.
func (c *chain) must(what string, p Proof) api.Errno {
	c.t.Helper()
	want, wanted := c.wanted(p)
	x, e := Check(c.relay, p)
	if e != wanted || !sameTx(x, want) {
		c.t.Errorf("%s: Check: %+v, %d; want %+v, %d", what, x, int(e), want, int(wanted))
	}
	x, e = Pays(c.relay, p, Payment{To: at(111)})
	if e != wanted || !sameTx(x, want) {
		c.t.Errorf("%s: Pays: %+v, %d; want %+v, %d", what, x, int(e), want, int(wanted))
	}
	return wanted
}

// mustHold checks that a proof holds.
func (c *chain) mustHold(what string, p Proof) {
	c.t.Helper()
	if e := c.must(what, p); e != api.OK {
		c.t.Errorf("%s: %d", what, int(e))
	}
}

// mustFail checks that a proof doesn't hold, and why.
func (c *chain) mustFail(what string, p Proof, want api.Errno) {
	c.t.Helper()
	if e := c.must(what, p); e != want {
		c.t.Errorf("%s: %d, want %d", what, int(e), int(want))
	}
}

// P14.1: Bytes and Parse

// mustTell checks the bytes of a proof, and that Parse undoes them.
func mustTell(t *testing.T, what string, p Proof) {
	t.Helper()
	want := laid(p)
	b := p.Bytes()
	if !bytes.Equal(b, want) {
		t.Errorf("%s: Bytes: %d of them, %.90x; want %d, %.90x", what, len(b), b, len(want), want)
	}
	if q, e := Parse(want); e != api.OK || !same(p, q) {
		t.Errorf("%s: Parse: %+v, %d; want %+v", what, q, int(e), p)
	}
}

// mustRefuse checks that bytes are none of a proof.
func mustRefuse(t *testing.T, what string, b []byte) {
	t.Helper()
	if p, e := Parse(b); e != api.ErrForm || !none(p) {
		t.Errorf("%s: Parse of %d bytes, %.90x: %+v, %d", what, len(b), b, p, int(e))
	}
}

func TestBytesByHand(t *testing.T) {
	p := Proof{Tx: []byte{7, 8, 9}, Block: digest.Hash(row(1, 32)), Index: 0x04030201, Count: 0x0d0c0b0a,
		Way: []digest.Hash{digest.Hash(row(50, 32)), digest.Hash(row(100, 32))}}
	want := slices.Concat([]byte{3, 7, 8, 9}, row(1, 32), []byte{1, 2, 3, 4}, []byte{10, 11, 12, 13}, []byte{2}, row(50, 32), row(100, 32))
	if b := p.Bytes(); !bytes.Equal(b, want) {
		t.Errorf("Bytes: %x, want %x", b, want)
	}
	if q, e := Parse(want); e != api.OK || !same(p, q) {
		t.Errorf("Parse: %+v, %d", q, int(e))
	}
	mustTell(t, "by hand", p)
}

func TestBytesOfTheEmptyProof(t *testing.T) {
	want := make([]byte, 1+32+4+4+1)
	for _, p := range []Proof{{}, {Tx: []byte{}, Way: []digest.Hash{}}} {
		if b := p.Bytes(); !bytes.Equal(b, want) {
			t.Errorf("Bytes: %x", b)
		}
	}
	if p, e := Parse(want); e != api.OK || !none(p) {
		t.Errorf("Parse: %+v, %d", p, int(e))
	}
}

func TestBytesOfLongerCounts(t *testing.T) {
	for n, head := range map[int][]byte{252: {252}, 253: {253, 253, 0}, 255: {253, 255, 0}, 256: {253, 0, 1}, 4096: {253, 0, 16},
		4097: {253, 1, 16}, 65535: {253, 255, 255}, 65536: {254, 0, 0, 1, 0}} {
		b := Proof{Tx: row(3, n)}.Bytes()
		if !bytes.Equal(b, slices.Concat(head, row(3, n), make([]byte, 41))) {
			t.Errorf("%d: %d bytes, %x ..", n, len(b), b[:8])
		}
	}
}

func TestBytesAndParseOfEachSize(t *testing.T) {
	for _, size := range []int{0, 1, 2, 63, 64, 65, 252, 253, 254, 255, 256, 257, 1000, 4095, 4096} {
		for way := range 17 {
			p := Proof{Tx: row(byte(size), size), Block: digest.Hash(row(9, 32)), Index: 5, Count: 70000, Way: hashes(1, way)}
			mustTell(t, fmt.Sprintf("of %d bytes, and %d hashes", size, way), p)
		}
	}
	for size := range 4097 {
		if q, e := Parse(laid(Proof{Tx: row(1, size)})); e != api.OK || !bytes.Equal(q.Tx, row(1, size)) {
			t.Errorf("of %d bytes: %d", size, int(e))
		}
	}
}

// Numbers that can't be of a block are a proof's, as Check looks at them.
func TestBytesAndParseOfEachNumber(t *testing.T) {
	for _, i := range numbers {
		for _, n := range numbers {
			mustTell(t, fmt.Sprintf("the %d-th of %d", i, n), Proof{Tx: row(1, 61), Block: digest.Hash{31: 1}, Index: i, Count: n, Way: hashes(2, 3)})
		}
	}
	for bit := range 32 {
		mustTell(t, "a bit", Proof{Index: 1 << bit})
		mustTell(t, "a bit", Proof{Count: 1 << bit})
	}
}

func TestBytesAndParseOfEachByteOfHashes(t *testing.T) {
	for i := range 32 {
		var h digest.Hash
		h[i] = 7
		mustTell(t, "of the block", Proof{Block: h})
		mustTell(t, "of the first one", Proof{Way: []digest.Hash{h, {}}})
		mustTell(t, "of the last one", Proof{Way: []digest.Hash{{}, h}})
	}
	mustTell(t, "all the same", Proof{Way: make([]digest.Hash, 16)})
}

// Of a proof that can't be Bytes tells all there is, but Parse takes none of it.
func TestTooLongIsNone(t *testing.T) {
	mustBe := func(what string, p Proof) {
		t.Helper()
		if b := p.Bytes(); !bytes.Equal(b, laid(p)) {
			t.Errorf("%s: Bytes: %d of them", what, len(b))
		}
		mustRefuse(t, what, laid(p))
		mustRefuse(t, what, p.Bytes())
	}
	for _, size := range []int{4097, 4098, 5000, 8192, 65535, 65536, 70000} {
		mustBe(fmt.Sprintf("of %d bytes", size), Proof{Tx: row(1, size)})
		mustBe(fmt.Sprintf("of %d bytes, with a way", size), Proof{Tx: row(1, size), Index: 1, Count: 2, Way: hashes(1, 1)})
	}
	for _, way := range []int{17, 18, 31, 32, 33, 64, 252, 253, 256, 257, 1000, 70000} {
		mustBe(fmt.Sprintf("of %d hashes", way), Proof{Tx: row(1, 61), Way: hashes(3, way)})
		mustBe(fmt.Sprintf("of %d hashes alone", way), Proof{Way: hashes(3, way)})
	}
	mustBe("of both", Proof{Tx: row(1, 4097), Way: hashes(3, 17)})
}

func TestParseOfPieces(t *testing.T) {
	mustRefuse(t, "of nil", nil)
	mustRefuse(t, "of nothing", []byte{})
	for what, p := range map[string]Proof{
		"none":       {},
		"small":      {Tx: row(1, 61), Block: digest.Hash(row(9, 32)), Index: 1, Count: 3, Way: hashes(1, 2)},
		"long":       {Tx: row(1, 253), Way: hashes(1, 16)},
		"without tx": {Way: hashes(5, 1)},
		"noughts":    {Tx: make([]byte, 100), Way: make([]digest.Hash, 16)},
	} {
		b := laid(p)
		for n := range b {
			mustRefuse(t, what, b[:n])
		}
		for n := 1; n <= 100; n++ {
			mustRefuse(t, what, slices.Concat(b, make([]byte, n)))
		}
		mustRefuse(t, what, append(slices.Clone(b), 1))
		mustRefuse(t, what, slices.Concat(b, b))
		mustTell(t, what, p)
	}
}

func TestParseOfLongPieces(t *testing.T) {
	p := Proof{Tx: row(1, 4096), Way: hashes(1, 16)}
	b := laid(p)
	for _, n := range []int{1, 2, 32, 33, 512, 513, len(b) / 2, len(b) - 1, len(b) - 2, len(b) - 3} {
		mustRefuse(t, "long", b[:len(b)-n])
	}
	mustRefuse(t, "long", append(b, 0))
}

// Each row has counts that tell other than there is, or that are written by more bytes than they need.
func TestParseOfWrongCounts(t *testing.T) {
	head := slices.Concat(row(9, 32), make([]byte, 8)) // a block, a number, and how many
	two := slices.Concat(row(30, 32), row(60, 32))
	for what, b := range map[string][]byte{
		"a byte more of the transaction":    slices.Concat([]byte{4, 1, 2, 3}, head, []byte{2}, two),
		"a byte fewer of the transaction":   slices.Concat([]byte{2, 1, 2, 3}, head, []byte{2}, two),
		"all bytes are of the transaction":  slices.Concat([]byte{108, 1, 2, 3}, head, []byte{2}, two),
		"more bytes than there are":         slices.Concat([]byte{252, 1, 2, 3}, head, []byte{2}, two),
		"4096 bytes that aren't there":      slices.Concat([]byte{253, 0, 16, 1, 2, 3}, head, []byte{2}, two),
		"2^64 - 1 bytes":                    slices.Concat([]byte{255, 255, 255, 255, 255, 255, 255, 255, 255}, head, []byte{2}, two),
		"2^63 bytes":                        slices.Concat([]byte{255, 0, 0, 0, 0, 0, 0, 0, 128}, head, []byte{2}, two),
		"2^32 + 3 bytes":                    slices.Concat([]byte{255, 3, 0, 0, 0, 1, 0, 0, 0, 1, 2, 3}, head, []byte{2}, two),
		"65536 + 3 bytes":                   slices.Concat([]byte{254, 3, 0, 1, 0, 1, 2, 3}, head, []byte{2}, two),
		"a count of three bytes for 3":      slices.Concat([]byte{253, 3, 0, 1, 2, 3}, head, []byte{2}, two),
		"a count of five bytes for 3":       slices.Concat([]byte{254, 3, 0, 0, 0, 1, 2, 3}, head, []byte{2}, two),
		"a count of nine bytes for 3":       slices.Concat([]byte{255, 3, 0, 0, 0, 0, 0, 0, 0, 1, 2, 3}, head, []byte{2}, two),
		"a hash more than there is":         slices.Concat([]byte{3, 1, 2, 3}, head, []byte{3}, two),
		"a hash fewer than there is":        slices.Concat([]byte{3, 1, 2, 3}, head, []byte{1}, two),
		"no hashes, where there are":        slices.Concat([]byte{3, 1, 2, 3}, head, []byte{0}, two),
		"16 hashes that aren't there":       slices.Concat([]byte{3, 1, 2, 3}, head, []byte{16}, two),
		"17 hashes that aren't there":       slices.Concat([]byte{3, 1, 2, 3}, head, []byte{17}, two),
		"17 hashes of which no one is":      slices.Concat([]byte{3, 1, 2, 3}, head, []byte{17}),
		"252 hashes":                        slices.Concat([]byte{3, 1, 2, 3}, head, []byte{252}, two),
		"65536 hashes":                      slices.Concat([]byte{3, 1, 2, 3}, head, []byte{254, 0, 0, 1, 0}, two),
		"2^64 - 1 hashes":                   slices.Concat([]byte{3, 1, 2, 3}, head, []byte{255, 255, 255, 255, 255, 255, 255, 255, 255}, two),
		"2^32 + 2 hashes":                   slices.Concat([]byte{3, 1, 2, 3}, head, []byte{255, 2, 0, 0, 0, 1, 0, 0, 0}, two),
		"a count of three bytes for 2":      slices.Concat([]byte{3, 1, 2, 3}, head, []byte{253, 2, 0}, two),
		"a count of five bytes for 2":       slices.Concat([]byte{3, 1, 2, 3}, head, []byte{254, 2, 0, 0, 0}, two),
		"a count of nine bytes for 2":       slices.Concat([]byte{3, 1, 2, 3}, head, []byte{255, 2, 0, 0, 0, 0, 0, 0, 0}, two),
		"a count that ends early":           slices.Concat([]byte{3, 1, 2, 3}, head, []byte{253, 2}),
		"a transaction's count ends early":  {253},
		"a transaction's count ends later":  {253, 253},
		"a transaction's count, nine bytes": {255, 1, 2, 3, 4, 5, 6, 7},
	} {
		mustRefuse(t, what, b)
		if _, ok := readBack(b); ok {
			t.Errorf("%s: they are a proof's", what)
		}
	}
	mustTell(t, "right ones", Proof{Tx: []byte{1, 2, 3}, Block: digest.Hash(row(9, 32)), Way: []digest.Hash{digest.Hash(row(30, 32)), digest.Hash(row(60, 32))}})
}

// anyProof answers a proof of anything, that Parse takes.
func anyProof(r *rand.Rand) Proof {
	p := Proof{Tx: make([]byte, r.Intn(400)), Index: r.Uint32(), Count: r.Uint32(), Way: hashes(byte(r.Intn(256)), r.Intn(17))}
	if r.Intn(20) == 0 {
		p.Tx = make([]byte, 4090+r.Intn(7))
	}
	r.Read(p.Tx)
	r.Read(p.Block[:])
	return p
}

// Any bytes are of one proof alone, or of none.
func TestParseOfAnyBytes(t *testing.T) {
	r := rand.New(rand.NewSource(14))
	taken, refused := 0, 0
	for range 30000 {
		b := laid(anyProof(r))
		switch r.Intn(6) {
		case 0:
			b[r.Intn(len(b))] ^= 1 << r.Intn(8)
		case 1:
			b = b[:r.Intn(len(b)+1)]
		case 2:
			b[0] = byte(r.Intn(256))
		case 3:
			b = make([]byte, r.Intn(200))
			r.Read(b)
		case 4:
			b = slices.Insert(b, r.Intn(len(b)+1), byte(r.Intn(256)))
		}
		want, ok := readBack(b)
		if !ok {
			refused++
			mustRefuse(t, "any bytes", b)
			continue
		}
		taken++
		p, e := Parse(b)
		if e != api.OK || !same(p, want) || !bytes.Equal(p.Bytes(), b) {
			t.Fatalf("Parse of %x: %+v, %d", b, p, int(e))
		}
	}
	if taken < 5000 || refused < 5000 {
		t.Errorf("%d were taken, %d refused", taken, refused)
	}
}

func FuzzParse(f *testing.F) {
	f.Add([]byte(nil))
	f.Add(laid(Proof{}))
	f.Add(laid(Proof{Tx: row(1, 300), Index: 1, Count: 2, Way: hashes(1, 16)}))
	f.Fuzz(func(t *testing.T, b []byte) {
		want, ok := readBack(b)
		p, e := Parse(b)
		if ok != (e == api.OK) || !ok && (e != api.ErrForm || !none(p)) || ok && !same(p, want) {
			t.Errorf("Parse of %x: %+v, %d", b, p, int(e))
		}
	})
}

func TestBytesChangesAndKeepsNothing(t *testing.T) {
	room := slices.Concat(row(1, 61), row(filler, 50))
	ways := append(hashes(1, 3), hashes(7, 3)...)
	p := Proof{Tx: room[:61], Block: digest.Hash{1}, Index: 1, Count: 5, Way: ways[:3]}
	want := laid(p)
	b := p.Bytes()
	if !bytes.Equal(room, slices.Concat(row(1, 61), row(filler, 50))) || !slices.Equal(ways, append(hashes(1, 3), hashes(7, 3)...)) {
		t.Error("the proof was changed, or its spare room")
	}
	other := p.Bytes()
	clear(b[:cap(b)])
	if !bytes.Equal(other, want) || !bytes.Equal(p.Bytes(), want) {
		t.Error("an answer isn't new memory")
	}
	if !bytes.Equal(room[:61], row(1, 61)) || !slices.Equal(p.Way, hashes(1, 3)) {
		t.Error("the answer shares memory with the proof")
	}
	clear(room)
	clear(ways)
	if !bytes.Equal(other, want) {
		t.Error("the proof shares memory with the answer")
	}
}

func TestParseChangesAndKeepsNothing(t *testing.T) {
	want := Proof{Tx: row(1, 300), Block: digest.Hash(row(9, 32)), Index: 6, Count: 7, Way: hashes(4, 16)}
	b := laid(want)
	room := slices.Concat(b, row(filler, 50))
	before := bytes.Clone(room)
	p, _ := Parse(room[:len(b)])
	q, _ := Parse(room[:len(b)])
	Parse(room[:len(b)-1])
	Parse(room[:len(b)+1])
	if !bytes.Equal(room, before) {
		t.Error("what was handed in was changed, or its spare room")
	}
	clear(p.Tx[:cap(p.Tx)])
	clear(p.Way[:cap(p.Way)])
	if !same(q, want) || !bytes.Equal(room, before) {
		t.Error("an answer shares memory with another one, or with what was handed in")
	}
	clear(room)
	if !same(q, want) {
		t.Error("what was handed in is kept")
	}
}

// P14.2: Check

// sizes are how many transactions blocks have.
var sizes = []int{1, 2, 3, 7, 8}

func TestCheckOfEachPlace(t *testing.T) {
	for _, confirm := range []int{1, 2, 100} {
		c := begin(t, confirm, several(0, 1))
		for _, n := range sizes {
			c.put(c.best, several(1000*n, n))
		}
		last := c.best
		c.mustFail("not confirmed", c.proof(last, 0), wantedAt(1, confirm))
		c.bury(last, confirm-1)
		for at := range last + 1 {
			for i, x := range c.blocks[at].txs {
				what := fmt.Sprintf("Confirm %d, the %d-th of %d", confirm, i, len(c.blocks[at].txs))
				c.mustHold(what, c.proof(at, i))
				if got, _ := Check(c.relay, c.proof(at, i)); !sameTx(got, x) {
					t.Errorf("%s: %+v, want %+v", what, got, x)
				}
			}
		}
	}
}

// wantedAt answers what is to be answered of a block so deep.
func wantedAt(depth, confirm int) api.Errno {
	if depth < confirm {
		return api.ErrDepth
	}
	return api.OK
}

// A block isn't confirmed by one block, and then just is; and stays so.
func TestCheckAtEachDepth(t *testing.T) {
	for _, confirm := range []int{1, 2, 3, 6, 100} {
		c := begin(t, confirm, several(0, 3))
		at := c.put(c.bury(0, 3), several(100, 7))
		for depth := 1; depth <= confirm+3; depth++ {
			if c.depth(at) != depth {
				t.Fatal(c.depth(at))
			}
			what := fmt.Sprintf("Confirm %d, so deep as %d", confirm, depth)
			for i := range 7 {
				c.mustFail(what, c.proof(at, i), wantedAt(depth, confirm))
			}
			c.mustFail(what+", the first block", c.proof(0, 2), wantedAt(depth+4, confirm))
			c.bury(c.best, 1)
		}
	}
}

func TestCheckOfTheFirstBlock(t *testing.T) {
	for _, n := range sizes {
		c := begin(t, 1, several(0, n))
		for i := range n {
			c.mustHold("the first block", c.proof(0, i))
		}
		c = begin(t, 2, several(0, n))
		for i := range n {
			c.mustFail("not confirmed", c.proof(0, i), api.ErrDepth)
		}
		c.bury(0, 1)
		for i := range n {
			c.mustHold("confirmed", c.proof(0, i))
		}
	}
}

// The chapter's example: of one transaction its hash is the root, and the way is empty.
func TestExample(t *testing.T) {
	x := numbered(5)
	id := doubled(written(t, x))
	first := mined(t, header.Header{Root: id, Time: start, Bits: half})
	r, e := relay.New(adjust.Rules{Every: 2016, Span: pace, Limit: half, Confirm: 1, First: first})
	if e != api.OK {
		t.Fatal(e)
	}
	p, e := Make([]digest.Hash{id}, 0, x, first.Hash())
	if e != api.OK || len(p.Way) != 0 || p.Index != 0 || p.Count != 1 {
		t.Errorf("%+v, %d", p, int(e))
	}
	if got, e := Check(r, p); e != api.OK || !sameTx(got, x) {
		t.Errorf("%+v, %d", got, int(e))
	}
}

// The block 170 of the chain, with the first transaction by which somebody paid somebody.
func TestOfTheChainsBlock170(t *testing.T) {
	unhex := func(s string) []byte {
		b, err := hex.DecodeString(s)
		if err != nil {
			t.Fatal(err)
		}
		return b
	}
	parsed := func(s string) digest.Hash {
		h, e := digest.Parse(s)
		if e != api.OK {
			t.Fatal(e)
		}
		return h
	}
	raw := unhex("0100000001c997a5e56e104102fa209c6a852dd90660a20b2d9c352423edce25857fcd3704000000004847304402204e45e16932b8af514961a1d3a1a25f" +
		"df3f4f7732e9d624c6c61548ab5fb8cd410220181522ec8eca07de4860a4acdd12909d831cc56cbbac4622082221a8768d1d0901ffffffff0200ca9a3b0000" +
		"0000434104ae1a62fe09c5f51b13905f07f06b99a2f7159b2225f374cd378d71302fa28414e7aab37397f554a7df5f142c21c1b7303b8a0626f1baded5c72a" +
		"704f7e6cd84cac00286bee0000000043410411db93e1dcdb8a016b49840f8c53bc1eb68a382e97b1482ecad7b148a6909a5cb2e0eaddfb84ccf9744464f82e" +
		"160bfa9b8b64f9d4c03f999b8643f656b412a3ac00000000")
	ids := []digest.Hash{
		parsed("b1fea52486ce0c62bb442b530a3f0132b826c74e473d1f2c220bfa78111c5082"),
		parsed("f4184fc596403b9d638783cf57adfe4c75c605f6356fbc91338530e9831e9e16"),
	}
	head := header.Header{
		Version: 1,
		Ahead:   parsed("000000002a22cfee1f2c846adbd12b3e183d4f97683f85dad08a79780a84bd55"),
		Root:    parsed("7dac2c5666815c17a3b36427de37bb9d2e2c5ccec3f8633eb91a4205cb4c10ff"),
		Time:    1231731025, Bits: 0x1d00ffff, Nonce: 1889418792,
	}
	r, e := relay.New(adjust.Rules{Every: 2016, Span: 1209600, Limit: 0x1d00ffff, Confirm: 1, First: head})
	if e != api.OK {
		t.Fatal(e)
	}
	x, e := tx.Parse(raw)
	if e != api.OK {
		t.Fatal(e)
	}
	block := parsed("00000000d1145790a8694403d4063f323d499e655c83426834d4ce2f8dd4a2ee")
	p, e := Make(ids, 1, x, block)
	if want := (Proof{Tx: raw, Block: block, Index: 1, Count: 2, Way: ids[:1]}); e != api.OK || !same(p, want) {
		t.Fatalf("Make: %+v, %d", p, int(e))
	}
	got, e := Check(r, p)
	if e != api.OK || !sameTx(got, x) || got.Outs[0].Pays != 10*api.Coin || got.Outs[1].Pays != 40*api.Coin {
		t.Errorf("Check: %+v, %d", got, int(e))
	}
	p.Index = 0
	if got, e := Check(r, p); e != api.ErrProof || !noTx(got) {
		t.Errorf("Check: %+v, %d", got, int(e))
	}
}

// badTx answers bytes that are no transaction's, each by what is wrong with them.
func badTx(t testing.TB) map[string][]byte {
	b := written(t, numbered(1))
	over := bytes.Clone(b)
	copy(over[4+1+32+4+1+21+4+1:], []byte{1, 0, 0, 0, 0, 0, 0, 64}) // the first output pays 2^62 + 1
	return map[string][]byte{
		"nil":           nil,
		"nothing":       {},
		"a byte":        {1},
		"cut":           b[:len(b)-1],
		"a byte more":   append(bytes.Clone(b), 0),
		"without a one": b[1:],
		"noughts":       make([]byte, 100),
		"two hashes":    bytes.Repeat([]byte{3}, 64),
		"64 bytes":      just64(),
		"paying beyond": over,
		"too long":      make([]byte, 4097),
		"much too long": make([]byte, 1<<20),
	}
}

// just64 answers the bytes of what would be a transaction, were it not just 64 of them.
func just64() []byte {
	b := make([]byte, 64)
	b[4], b[46], b[55] = 1, 1, 4 // an input, an output, and a lock of four bytes
	return b
}

func TestCheckOfATransactionThatIsNone(t *testing.T) {
	c := begin(t, 1, several(0, 3))
	for what, b := range badTx(t) {
		p := c.proof(0, 1)
		p.Tx = b
		c.mustFail(what, p, api.ErrForm)
	}
}

// Who takes a block's two hashes for a transaction proves nothing.
func TestCheckOfWhatStandsInARowAbove(t *testing.T) {
	c := begin(t, 1, several(0, 4))
	b := c.blocks[0]
	two := slices.Concat(b.ids[0][:], b.ids[1][:])
	c.mustFail("two hashes", Proof{Tx: two, Block: b.hash, Index: 0, Count: 2, Way: []digest.Hash{pair(b.ids[2], b.ids[3])}}, api.ErrForm)
	// Nor does a root whose transaction really has 64 bytes.
	root := doubled(just64())
	at := c.lay(c.best, root)
	c.mustFail("64 bytes", Proof{Tx: just64(), Block: c.blocks[at].hash, Index: 0, Count: 1}, api.ErrForm)
}

func TestCheckOfTransactionsOfEachSize(t *testing.T) {
	for _, n := range []int{60, 61, 63, 65, 66, 100, 252, 253, 4095, 4096} {
		x := sized(t, n)
		if len(written(t, x)) != n {
			t.Fatal(n)
		}
		c := begin(t, 1, append(several(0, 2), x))
		c.mustHold(fmt.Sprintf("of %d bytes", n), c.proof(0, 2))
	}
}

func TestCheckOfABlockThatIsntThere(t *testing.T) {
	c := begin(t, 1, several(0, 3))
	at := c.put(0, several(10, 3))
	c.bury(at, 2)
	for bit := range 256 {
		p := c.proof(at, 1)
		p.Block[bit/8] ^= 1 << (bit % 8)
		c.mustFail("another block", p, api.ErrNone)
	}
	unsaid := mined(t, header.Header{Ahead: c.blocks[c.best].hash, Root: c.blocks[at].head.Root, Time: 5000, Bits: half})
	for what, h := range map[string]digest.Hash{"noughts": {}, "the one ahead of the first": c.blocks[0].head.Ahead, "a root": c.blocks[at].head.Root,
		"the transaction": c.blocks[at].ids[1], "one that wasn't told": unsaid.Hash()} {
		p := c.proof(at, 1)
		p.Block = h
		c.mustFail(what, p, api.ErrNone)
	}
	c.mustHold("just that one", c.proof(at, 1))
}

func TestCheckOfABlockThatIsntInTheBestChain(t *testing.T) {
	for _, confirm := range []int{1, 2, 100} {
		c := begin(t, confirm, several(0, 3))
		in := c.put(0, several(10, 3))
		c.bury(in, confirm+4)
		beside := c.put(0, several(20, 3))
		c.bury(beside, confirm+3) // as much work but one block: deep enough, were it in the best chain
		for i := range 3 {
			c.mustHold("in the best chain", c.proof(in, i))
			c.mustFail("beside it", c.proof(beside, i), api.ErrDepth)
			c.mustHold("the first block", c.proof(0, i))
		}
		c.bury(len(c.blocks)-1, 1) // just as much work: nothing turns
		c.mustHold("in the best chain", c.proof(in, 1))
		c.mustFail("beside it", c.proof(beside, 1), api.ErrDepth)
		c.bury(len(c.blocks)-1, 1)
		for i := range 3 {
			c.mustFail("behind the turn", c.proof(in, i), api.ErrDepth)
			c.mustHold("behind the turn", c.proof(beside, i))
			c.mustHold("the first block, behind the turn", c.proof(0, i))
		}
	}
}

// others are numbers near one, and such that are it in fewer bits.
func others(n uint32) []uint32 {
	l := slices.Concat(numbers, []uint32{3, 4, 5, 6, 7, 8, 9, 15, 16, 17, n + 1<<8, n + 1<<16, n + 1<<31, ^n, -n})
	for d := range uint32(10) {
		l = append(l, n+d, n-d)
	}
	return slices.DeleteFunc(l, func(x uint32) bool { return x == n })
}

func TestCheckOfAnotherNumber(t *testing.T) {
	for _, n := range sizes {
		c := begin(t, 1, several(0, n))
		for i := range n {
			for _, other := range others(uint32(i)) {
				p := c.proof(0, i)
				p.Index = other
				c.mustFail(fmt.Sprintf("the %d-th of %d as the %d-th", i, n, other), p, api.ErrProof)
			}
		}
	}
}

// How many there are is told by how long the way is, and by which of its hashes stand twice: what both don't tell isn't looked at.
func TestCheckOfAnotherHowMany(t *testing.T) {
	for _, n := range sizes {
		c := begin(t, 1, several(0, n))
		for i := range n {
			for _, other := range others(uint32(n)) {
				p := c.proof(0, i)
				p.Count = other
				c.must(fmt.Sprintf("the %d-th of %d as one of %d", i, n, other), p)
			}
		}
	}
	for _, c := range []struct {
		i, n, as int
		want     api.Errno
	}{
		{0, 1, 0, api.ErrProof}, {0, 1, 2, api.ErrProof}, {0, 2, 1, api.ErrProof}, {0, 2, 0, api.ErrProof}, {0, 2, 3, api.ErrProof},
		{1, 2, 3, api.ErrProof}, {1, 2, 4, api.ErrProof}, {2, 3, 4, api.ErrProof}, {2, 3, 2, api.ErrProof}, {0, 3, 4, api.OK},
		{1, 3, 4, api.OK}, {0, 3, 5, api.ErrProof}, {6, 7, 8, api.ErrProof}, {5, 7, 8, api.OK}, {6, 7, 6, api.ErrProof},
		{7, 8, 7, api.ErrProof}, {6, 8, 7, api.ErrProof}, {5, 8, 7, api.OK}, {5, 8, 6, api.ErrProof}, {3, 8, 4, api.ErrProof},
		{0, 1, 65537, api.ErrProof}, {0, 1, math.MaxUint32, api.ErrProof}, {7, 8, 65544, api.ErrProof},
	} {
		b := begin(t, 1, several(0, c.n))
		p := b.proof(0, c.i)
		p.Count = uint32(c.as)
		b.mustFail(fmt.Sprintf("the %d-th of %d as one of %d", c.i, c.n, c.as), p, c.want)
	}
}

func TestCheckOfAnotherWay(t *testing.T) {
	for _, n := range sizes {
		c := begin(t, 1, several(0, n))
		for i := range n {
			p := c.proof(0, i)
			mustnt := func(what string, way []digest.Hash) {
				t.Helper()
				q := copied(p)
				q.Way = way
				c.mustFail(fmt.Sprintf("the %d-th of %d, %s", i, n, what), q, api.ErrProof)
			}
			for row := range p.Way {
				for _, bit := range []int{0, 7, 8, 100, 255} {
					way := slices.Clone(p.Way)
					way[row][bit/8] ^= 1 << (bit % 8)
					mustnt("a bit", way)
				}
				mustnt("without a row", slices.Delete(slices.Clone(p.Way), row, row+1))
				mustnt("up to a row", p.Way[:row])
				mustnt("from a row on", p.Way[row+1:])
				mustnt("with a row twice", slices.Insert(slices.Clone(p.Way), row, p.Way[row]))
				way := slices.Clone(p.Way)
				way[row] = doubled(p.Tx)
				if way[row] != p.Way[row] {
					mustnt("its own hash", way)
				}
			}
			if back := slices.Clone(p.Way); len(back) > 1 {
				slices.Reverse(back)
				mustnt("the other way round", back)
			}
			root := c.blocks[0].head.Root
			for _, more := range [][]digest.Hash{{{}}, {root}, {doubled(p.Tx)}, hashes(1, 1), hashes(1, 16), hashes(1, 17), hashes(1, 70000)} {
				mustnt("longer", slices.Concat(p.Way, more))
			}
		}
	}
}

func TestCheckOfAnotherTransaction(t *testing.T) {
	for _, n := range sizes {
		c := begin(t, 1, several(0, n))
		for i := range n {
			for j, x := range slices.Concat(c.blocks[0].txs, several(100, 3)) {
				p := c.proof(0, i)
				p.Tx = written(t, x)
				if j != i {
					c.mustFail("another transaction", p, api.ErrProof)
				}
			}
		}
	}
	c := begin(t, 1, several(0, 3))
	for at := range c.proof(0, 1).Tx {
		for _, by := range []byte{1, 128} {
			p := c.proof(0, 1)
			p.Tx[at] ^= by
			if e := c.must("another byte", p); e != api.ErrProof && e != api.ErrForm {
				t.Errorf("another byte at %d: %d", at, int(e))
			}
		}
	}
}

func TestCheckOfAnotherBlock(t *testing.T) {
	c := begin(t, 1, several(0, 1))
	for _, n := range sizes {
		c.put(c.best, several(1000*n, n))
	}
	for at, b := range c.blocks {
		for i := range b.txs {
			for other := range c.blocks {
				p := c.proof(at, i)
				p.Block = c.blocks[other].hash
				if other != at {
					c.mustFail("another block", p, api.ErrProof)
				}
			}
		}
	}
	again := c.put(c.best, c.blocks[4].txs) // of the same root
	p := c.proof(4, 5)
	p.Block = c.blocks[again].hash
	c.mustHold("a block with the same transactions", p)
}

// Of a block nothing may be known but its root, which nobody's transaction need have.
func TestCheckOfRootsThatAreNobodys(t *testing.T) {
	c := begin(t, 1, several(0, 2))
	p := c.proof(0, 1)
	for _, root := range []digest.Hash{{}, {31: 1}, p.Way[0], c.blocks[0].hash} {
		q := copied(p)
		q.Block = c.blocks[c.lay(c.best, root)].hash
		c.mustFail("another root", q, api.ErrProof)
		q.Index, q.Count, q.Way = 0, 1, nil
		c.mustFail("another root, and no way", q, api.ErrProof)
		q.Index, q.Count = 1, 0
		c.mustFail("another root, and no place", q, api.ErrProof)
	}
	at := c.lay(c.best, doubled(p.Tx))
	q := Proof{Tx: p.Tx, Block: c.blocks[at].hash, Count: 1}
	c.mustHold("its own hash", q)
}

// Three blocks have the same root: one is confirmed, one is beside the best chain, one is too young.
func faulty(t testing.TB) (c *chain, right Proof, blocks map[api.Errno]digest.Hash) {
	l := several(10, 7)
	c = begin(t, 3, several(0, 1))
	at := c.put(0, l)
	beside := c.put(0, l)
	c.bury(at, 4)
	young := c.put(c.best, l)
	c.bury(young, 1)
	p := c.proof(at, 4)
	stranger := c.blocks[at].hash
	stranger[9] ^= 4
	if c.depth(beside) != 0 || c.depth(young) != 2 {
		t.Fatal("they stand elsewhere")
	}
	return c, p, map[api.Errno]digest.Hash{api.OK: p.Block, api.ErrNone: stranger, api.ErrDepth: c.blocks[young].hash, -api.ErrDepth: c.blocks[beside].hash}
}

// misled are changes by which a proof doesn't climb to its root.
func misled() map[string]func(p *Proof) {
	return map[string]func(p *Proof){
		"number":         func(p *Proof) { p.Index++ },
		"no place":       func(p *Proof) { p.Index = 7 },
		"how many":       func(p *Proof) { p.Count = 0 },
		"too many":       func(p *Proof) { p.Count = leaves + 1 },
		"a way's hash":   func(p *Proof) { p.Way[1][0] ^= 1 },
		"no way":         func(p *Proof) { p.Way = nil },
		"17 hashes":      func(p *Proof) { p.Way = hashes(1, 17) },
		"transaction":    func(p *Proof) { p.Tx[0] ^= 1 },
		"several faults": func(p *Proof) { p.Index, p.Count, p.Way = math.MaxUint32, math.MaxUint32, nil },
	}
}

func TestCheckOfSeveralErrors(t *testing.T) {
	c, right, blocks := faulty(t)
	c.mustHold("right", right)
	for e, h := range blocks {
		if e < 0 {
			e = -e
		}
		p := copied(right)
		p.Block = h
		c.mustFail("that block alone", p, e)
		for what, mislead := range misled() {
			q := copied(p)
			mislead(&q)
			wanted := e
			if e == api.OK {
				wanted = api.ErrProof
			}
			c.mustFail(what, q, wanted)
			for how, b := range badTx(t) {
				q.Tx = b
				c.mustFail(what+", "+how, q, api.ErrForm)
			}
		}
		for how, b := range badTx(t) {
			q := copied(p)
			q.Tx = b
			c.mustFail(how, q, api.ErrForm)
		}
	}
}

func TestNilRelay(t *testing.T) {
	c, right, _ := faulty(t)
	mustBe := func(what string, p Proof, want api.Errno) {
		t.Helper()
		if x, e := Check(nil, p); e != want || !noTx(x) {
			t.Errorf("%s: Check: %+v, %d, want %d", what, x, int(e), int(want))
		}
		for _, pay := range []Payment{{}, {To: at(7), Amount: 50, Tag: []byte("tag")}, {Amount: math.MaxUint64}} {
			if x, e := Pays(nil, p, pay); e != want || !noTx(x) {
				t.Errorf("%s: Pays: %+v, %d, want %d", what, x, int(e), int(want))
			}
		}
	}
	mustBe("right", right, api.ErrArg)
	mustBe("none", Proof{}, api.ErrForm)
	for what, mislead := range misled() {
		p := copied(right)
		mislead(&p)
		mustBe(what, p, api.ErrArg)
		p.Block[0] ^= 1
		mustBe(what, p, api.ErrArg)
	}
	for what, b := range badTx(t) {
		p := copied(right)
		p.Tx = b
		mustBe(what, p, api.ErrForm)
	}
	c.mustHold("right", right)
	// Of a relay that New didn't make nothing is promised, but that calls end.
	if x, e := Check(&relay.Relay{}, right); e == api.OK || !noTx(x) {
		t.Errorf("%+v, %d", x, int(e))
	}
}

// What changes the target changes nothing here: how much work a block has isn't asked for.
func TestCheckWhereTheTargetIsSetAnew(t *testing.T) {
	l := several(0, 3)
	ids := idsOf(t, l)
	first := mined(t, header.Header{Root: rootOf(ids), Time: start, Bits: half})
	r, e := relay.New(adjust.Rules{Every: 2, Span: 400, Limit: half, Confirm: 3, First: first})
	if e != api.OK {
		t.Fatal(e)
	}
	heads := []header.Header{first}
	for range 12 {
		ahead := heads[len(heads)-1]
		bits, e := r.Tree().Bits(ahead.Hash())
		if e != api.OK {
			t.Fatal(e)
		}
		h := mined(t, header.Header{Ahead: ahead.Hash(), Root: rootOf(ids), Time: ahead.Time + 300, Bits: bits})
		if _, e := r.Submit(h.Bytes()); e != api.OK {
			t.Fatal(e)
		}
		heads = append(heads, h)
	}
	if heads[12].Bits == half {
		t.Fatal("it wasn't set anew")
	}
	for height, h := range heads {
		p, _ := Make(ids, 2, l[2], h.Hash())
		if x, e := Check(r, p); e != wantedAt(13-height, 3) || noTx(x) != (e != api.OK) {
			t.Errorf("at the height %d: %d", height, int(e))
		}
	}
}

// P14.2: In

// pays tells whether a transaction pays a payment, as the chapter has it.
func pays(x tx.Tx, p Payment) bool {
	sum, has := new(big.Int), len(p.Tag) == 0
	for _, out := range x.Outs {
		if bytes.Equal(out.Lock, to(p.To)) {
			sum.Add(sum, new(big.Int).SetUint64(uint64(out.Pays)))
		}
		if len(p.Tag) <= 40 && bytes.Equal(out.Lock, tagged(string(p.Tag))) {
			has = true
		}
	}
	return has && sum.Cmp(big.NewInt(most)) <= 0 && sum.Cmp(new(big.Int).SetUint64(uint64(p.Amount))) >= 0
}

// mustPay checks whether a transaction pays a payment, and that In says so.
func mustPay(t *testing.T, what string, x tx.Tx, p Payment, want api.Errno) {
	t.Helper()
	if pays(x, p) != (want == api.OK) {
		t.Fatalf("%s: it's the other way round", what)
	}
	if e := p.In(x); e != want {
		t.Errorf("%s: In: %d, want %d", what, int(e), int(want))
	}
}

func TestInOfAnAmount(t *testing.T) {
	for _, n := range []money.Amount{0, 1, 2, 50, 255, 256, 1<<32 - 1, 1 << 32, most - 1, most} {
		x := paying(tx.Out{Pays: n, Lock: to(at(7))})
		mustPay(t, "just paid", x, Payment{To: at(7), Amount: n}, api.OK)
		mustPay(t, "one more", x, Payment{To: at(7), Amount: n + 1}, api.ErrPay)
		if n > 0 {
			mustPay(t, "one less", x, Payment{To: at(7), Amount: n - 1}, api.OK)
		}
		mustPay(t, "of 0", x, Payment{To: at(7)}, api.OK)
	}
}

// More than an amount can be isn't paid by anything.
func TestInOfAnAmountThatCantBe(t *testing.T) {
	x := paying(tx.Out{Pays: most, Lock: to(at(7))})
	for _, n := range []money.Amount{most + 1, 1 << 63, 1<<63 + 1, math.MaxUint64 - 1, math.MaxUint64} {
		mustPay(t, "it can't be", x, Payment{To: at(7), Amount: n}, api.ErrPay)
		mustPay(t, "it can't be", tx.Tx{}, Payment{To: at(7), Amount: n}, api.ErrPay)
		mustPay(t, "it is paid just so", paying(tx.Out{Pays: n, Lock: to(at(7))}), Payment{To: at(7), Amount: n}, api.ErrPay)
	}
}

func TestInOfSeveralOutputs(t *testing.T) {
	x := paying(
		tx.Out{Pays: 10, Lock: to(at(7))},
		tx.Out{Pays: 1000, Lock: to(at(8))},
		tx.Out{Pays: 20, Lock: to(at(7))},
		tx.Out{Pays: 4000, Lock: tagged("hi")},
		tx.Out{Pays: 0, Lock: to(at(7))},
		tx.Out{Pays: 8000},
		tx.Out{Pays: 5, Lock: to(at(7))},
	)
	for n, want := range map[money.Amount]api.Errno{0: api.OK, 10: api.OK, 20: api.OK, 30: api.OK, 34: api.OK, 35: api.OK, 36: api.ErrPay, 1000: api.ErrPay} {
		mustPay(t, "several", x, Payment{To: at(7), Amount: n}, want)
		mustPay(t, "several, with a tag", x, Payment{To: at(7), Amount: n, Tag: []byte("hi")}, want)
	}
	mustPay(t, "the other one", x, Payment{To: at(8), Amount: 1000}, api.OK)
	mustPay(t, "the other one", x, Payment{To: at(8), Amount: 1001}, api.ErrPay)
	mustPay(t, "nobody", x, Payment{To: at(9), Amount: 1}, api.ErrPay)
	mustPay(t, "nobody, and nothing", x, Payment{To: at(9)}, api.OK)
	var many []tx.Out
	for range 100 { // more than a transaction has that can be written
		many = append(many, tx.Out{Pays: 3, Lock: to(at(7))})
	}
	mustPay(t, "many", paying(many...), Payment{To: at(7), Amount: 300}, api.OK)
	mustPay(t, "many", paying(many...), Payment{To: at(7), Amount: 301}, api.ErrPay)
}

// What is paid beyond what an amount can be is no payment, however little is asked for.
func TestInOfWhatGoesBeyond(t *testing.T) {
	for what, l := range map[string][]money.Amount{
		"by one":              {most, 1},
		"by one, from behind": {1, most},
		"by much":             {most, most},
		"round to 0":          {most, most, most, most},
		"round to 5":          {most, most, most, most, 5},
		"in one output":       {most + 1},
		"in one far beyond":   {math.MaxUint64},
		"half of all":         {1 << 63, 1 << 63},
		"in the last one":     {50, most + 1},
		"in the first one":    {1 << 63, 50},
		"round in two":        {51, math.MaxUint64},
	} {
		var outs, elsewhere []tx.Out
		for _, n := range l {
			outs = append(outs, tx.Out{Pays: n, Lock: to(at(7))})
			elsewhere = append(elsewhere, tx.Out{Pays: n, Lock: to(at(8))})
		}
		outs = append(outs, tx.Out{Lock: tagged("tag")})
		for _, n := range []money.Amount{0, 1, 5, 50, most, most + 1, math.MaxUint64} {
			for _, tag := range []string{"", "tag", "other"} {
				mustPay(t, what, paying(outs...), Payment{To: at(7), Amount: n, Tag: []byte(tag)}, api.ErrPay)
			}
		}
		elsewhere = append(elsewhere, tx.Out{Pays: 50, Lock: to(at(7))})
		mustPay(t, what+", but to somebody else", paying(elsewhere...), Payment{To: at(7), Amount: 50}, api.OK)
		mustPay(t, what+", but to somebody else", paying(elsewhere...), Payment{To: at(7), Amount: 51}, api.ErrPay)
	}
	just := paying(tx.Out{Pays: most - 5, Lock: to(at(7))}, tx.Out{Pays: 5, Lock: to(at(7))})
	mustPay(t, "just not beyond", just, Payment{To: at(7), Amount: most}, api.OK)
}

func TestInOfAnAddress(t *testing.T) {
	x := paying(tx.Out{Pays: 50, Lock: to(at(7))})
	for i := range 20 {
		a := at(7)
		a[i] ^= 1
		mustPay(t, "another address", x, Payment{To: a, Amount: 1}, api.ErrPay)
		mustPay(t, "another address, of 0", x, Payment{To: a}, api.OK)
	}
	zero := lock.Address{}
	mustPay(t, "of noughts", x, Payment{To: zero, Amount: 1}, api.ErrPay)
	mustPay(t, "of noughts", paying(tx.Out{Pays: 50, Lock: to(zero)}), Payment{To: zero, Amount: 50}, api.OK)
	a := at(7)
	for what, b := range map[string][]byte{"no lock": nil, "an address alone": a[:], "a key": lock.Key(a), "a byte fewer": to(a)[:24],
		"a byte more": append(to(a), 0), "a tag": tagged(string(a[:])), "a tag of a lock": tagged(string(to(a)))} {
		mustPay(t, what, paying(tx.Out{Pays: 50, Lock: b}), Payment{To: a, Amount: 1}, api.ErrPay)
	}
	spent := tx.Tx{Ins: []tx.In{{Key: lock.Key(a)}, {Key: to(a)}}, Outs: []tx.Out{{Pays: 50, Lock: to(at(8))}}}
	mustPay(t, "who spends isn't paid", spent, Payment{To: a, Amount: 1}, api.ErrPay)
}

func TestInOfATag(t *testing.T) {
	paid := tx.Out{Pays: 50, Lock: to(at(7))}
	long := string(row('a', 40))
	for what, c := range map[string]struct {
		locks []string // the tags there are
		tag   string
		want  api.Errno
	}{
		"none of none":           {nil, "", api.OK},
		"none of one":            {[]string{"a"}, "", api.OK},
		"none of several":        {[]string{"a", "b"}, "", api.OK},
		"one of none":            {nil, "a", api.ErrPay},
		"the one":                {[]string{"a"}, "a", api.OK},
		"another one":            {[]string{"a"}, "b", api.ErrPay},
		"the first one":          {[]string{"a", "b", "c"}, "a", api.OK},
		"the middle one":         {[]string{"a", "b", "c"}, "b", api.OK},
		"the last one":           {[]string{"a", "b", "c"}, "c", api.OK},
		"none of several is it":  {[]string{"a", "b", "c"}, "d", api.ErrPay},
		"twice":                  {[]string{"a", "a"}, "a", api.OK},
		"how it begins":          {[]string{"tag"}, "ta", api.ErrPay},
		"how it ends":            {[]string{"tag"}, "ag", api.ErrPay},
		"longer":                 {[]string{"tag"}, "tags", api.ErrPay},
		"of both together":       {[]string{"a", "b"}, "ab", api.ErrPay},
		"greater letters":        {[]string{"tag"}, "TAG", api.ErrPay},
		"a nought":               {[]string{"\x00"}, "\x00", api.OK},
		"a nought, of none":      {nil, "\x00", api.ErrPay},
		"noughts, of fewer":      {[]string{"\x00"}, "\x00\x00", api.ErrPay},
		"a nought behind":        {[]string{"tag"}, "tag\x00", api.ErrPay},
		"the longest":            {[]string{long}, long, api.OK},
		"the longest but for it": {[]string{long[:39]}, long, api.ErrPay},
		"one byte of many":       {[]string{long}, long[:39] + "x", api.ErrPay},
		"any bytes":              {[]string{"\xff\xfe"}, "\xff\xfe", api.OK},
		"with its lock's bytes":  {[]string{"a"}, "\x6a\x01a", api.ErrPay},
	} {
		var outs []tx.Out
		for _, tag := range c.locks {
			outs = append(outs, tx.Out{Lock: tagged(tag)})
		}
		for at7 := range len(outs) + 1 { // the payment stands among the tags anywhere
			x := paying(slices.Insert(slices.Clone(outs), at7, paid)...)
			mustPay(t, what, x, Payment{To: at(7), Amount: 50, Tag: []byte(c.tag)}, c.want)
			mustPay(t, what+", of too little", x, Payment{To: at(7), Amount: 51, Tag: []byte(c.tag)}, api.ErrPay)
			mustPay(t, what+", of nothing", x, Payment{To: at(1), Tag: []byte(c.tag)}, c.want)
		}
	}
}

func TestInOfTagsThatCantBe(t *testing.T) {
	paid := tx.Out{Pays: 50, Lock: to(at(7))}
	for _, n := range []int{41, 42, 64, 106, 255, 256, 300} {
		tag := row('a', n)
		b := slices.Concat([]byte{106, byte(n)}, tag)
		mustPay(t, "too long", paying(paid, tx.Out{Lock: b}), Payment{To: at(7), Tag: tag}, api.ErrPay)
		mustPay(t, "too long, but none is asked for", paying(paid, tx.Out{Lock: b}), Payment{To: at(7), Amount: 50}, api.OK)
		mustPay(t, "too long, of a shorter one", paying(paid, tx.Out{Lock: tagged(string(tag[:40]))}), Payment{To: at(7), Tag: tag}, api.ErrPay)
	}
	for what, b := range map[string][]byte{"of another length": {106, 3, 'h', 'i'}, "of a shorter length": {106, 1, 'h', 'i'}, "bare": []byte("hi"),
		"with another sign": {107, 2, 'h', 'i'}, "with a length alone": {2, 'h', 'i'}} {
		mustPay(t, what, paying(paid, tx.Out{Lock: b}), Payment{To: at(7), Tag: []byte("hi")}, api.ErrPay)
	}
	a := at(7)
	mustPay(t, "an address is no tag", paying(paid), Payment{To: a, Tag: a[:]}, api.ErrPay)
	mustPay(t, "a lock is no tag", paying(paid), Payment{To: a, Tag: to(a)}, api.ErrPay)
	keyed := tx.Tx{Ins: []tx.In{{Key: tagged("hi")}}, Outs: []tx.Out{paid}}
	mustPay(t, "a key is no tag", keyed, Payment{To: a, Tag: []byte("hi")}, api.ErrPay)
	mustPay(t, "a tag that pays is one", paying(paid, tx.Out{Pays: 9, Lock: tagged("hi")}), Payment{To: a, Amount: 50, Tag: []byte("hi")}, api.OK)
	mustPay(t, "what a tag pays isn't paid to anybody", paying(paid, tx.Out{Pays: 9, Lock: tagged("hi")}), Payment{To: a, Amount: 51, Tag: []byte("hi")}, api.ErrPay)
	mustPay(t, "a tag that pays beyond", paying(paid, tx.Out{Pays: most + 1, Lock: tagged("hi")}), Payment{To: a, Amount: 50, Tag: []byte("hi")}, api.OK)
}

// Of no transaction, and of no payment.
func TestInOfNothing(t *testing.T) {
	mustPay(t, "both", tx.Tx{}, Payment{}, api.OK)
	mustPay(t, "no transaction", tx.Tx{}, Payment{To: at(7), Amount: 1}, api.ErrPay)
	mustPay(t, "no transaction, and 0", tx.Tx{}, Payment{To: at(7)}, api.OK)
	mustPay(t, "no transaction, and a tag", tx.Tx{}, Payment{To: at(7), Tag: []byte("hi")}, api.ErrPay)
	mustPay(t, "a tag of no bytes", paying(tx.Out{Lock: []byte{106, 0}}), Payment{Tag: []byte{}}, api.OK)
	mustPay(t, "a transaction without inputs", tx.Tx{Outs: []tx.Out{{Pays: 5, Lock: to(at(7))}}}, Payment{To: at(7), Amount: 5}, api.OK)
}

func TestInOfAnything(t *testing.T) {
	r := rand.New(rand.NewSource(3))
	tags := []string{"", "a", "b", "ab", string(row('a', 40)), string(row('a', 41))}
	amounts := []money.Amount{0, 1, 2, 3, 4, 6, most - 1, most, most + 1, math.MaxUint64}
	met := map[api.Errno]int{}
	for range 30000 {
		var outs []tx.Out
		for range r.Intn(6) {
			b := to(at(byte(r.Intn(3))))
			if r.Intn(3) == 0 {
				b = tagged(tags[r.Intn(len(tags))])
			}
			outs = append(outs, tx.Out{Pays: amounts[r.Intn(4+r.Intn(7))], Lock: b})
		}
		p := Payment{To: at(byte(r.Intn(3))), Amount: amounts[r.Intn(1+r.Intn(10))], Tag: []byte(tags[r.Intn(1+r.Intn(6))])}
		want := api.ErrPay
		if pays(paying(outs...), p) {
			want = api.OK
		}
		met[want]++
		mustPay(t, fmt.Sprintf("%+v of %+v", p, outs), paying(outs...), p, want)
	}
	if met[api.OK] < 3000 || met[api.ErrPay] < 3000 {
		t.Errorf("%d pay, %d don't", met[api.OK], met[api.ErrPay])
	}
}

// P14.2: Pays

func TestPays(t *testing.T) {
	for _, n := range sizes {
		c := begin(t, 2, several(0, n))
		c.bury(0, 1)
		for i := range n {
			p, x := c.proof(0, i), c.blocks[0].txs[i]
			for _, pay := range []Payment{{To: at(7), Amount: 50, Tag: []byte("tag")}, {To: at(7), Amount: 50}, {To: at(7), Amount: 49},
				{To: at(9), Amount: money.Amount(i), Tag: []byte("tag")}, {To: at(1)}, {To: at(1), Tag: []byte("tag")}, {}} {
				if got, e := Pays(c.relay, p, pay); e != api.OK || !sameTx(got, x) {
					t.Errorf("%+v: %+v, %d", pay, got, int(e))
				}
			}
			for _, pay := range unpaid() {
				if got, e := Pays(c.relay, p, pay); e != api.ErrPay || !noTx(got) {
					t.Errorf("%+v: %+v, %d", pay, got, int(e))
				}
			}
		}
	}
}

// unpaid are payments that a numbered transaction doesn't pay.
func unpaid() []Payment {
	return []Payment{
		{To: at(7), Amount: 51},
		{To: at(7), Amount: 51, Tag: []byte("tag")},
		{To: at(7), Amount: 50, Tag: []byte("other")},
		{To: at(7), Amount: 51, Tag: []byte("other")},
		{To: at(8), Amount: 50, Tag: []byte("tag")},
		{To: at(7), Amount: math.MaxUint64},
		{Tag: []byte("other")},
	}
}

// Each error of Check goes ahead of that of In, and no transaction is told beside one.
func TestPaysOfErrorsOfBoth(t *testing.T) {
	c, right, blocks := faulty(t)
	paid := Payment{To: at(7), Amount: 50, Tag: []byte("tag")}
	mustBe := func(what string, p Proof, want api.Errno) {
		t.Helper()
		for i, pay := range append(unpaid(), paid) {
			wanted := want
			if want == api.OK && i < len(unpaid()) {
				wanted = api.ErrPay
			}
			x, e := Pays(c.relay, p, pay)
			if e != wanted || noTx(x) != (wanted != api.OK) {
				t.Errorf("%s: Pays of %+v: %+v, %d, want %d", what, pay, x, int(e), int(wanted))
			}
		}
	}
	for e, h := range blocks {
		if e < 0 {
			e = -e
		}
		p := copied(right)
		p.Block = h
		mustBe("that block", p, e)
		for what, mislead := range misled() {
			q := copied(p)
			mislead(&q)
			if e == api.OK {
				mustBe(what, q, api.ErrProof)
			} else {
				mustBe(what, q, e)
			}
		}
		for what, b := range badTx(t) {
			q := copied(p)
			q.Tx = b
			mustBe(what, q, api.ErrForm)
		}
	}
}

// What a transaction that stands in a block pays can go beyond, as each of its outputs may be the greatest.
func TestPaysOfWhatGoesBeyond(t *testing.T) {
	x := paying(tx.Out{Pays: most, Lock: to(at(7))}, tx.Out{Pays: 1, Lock: to(at(7))}, tx.Out{Pays: most, Lock: to(at(8))})
	c := begin(t, 1, []tx.Tx{numbered(1), x})
	p := c.proof(0, 1)
	c.mustHold("it stands there", p)
	for _, n := range []money.Amount{0, 1, most, most + 1} {
		if got, e := Pays(c.relay, p, Payment{To: at(7), Amount: n}); e != api.ErrPay || !noTx(got) {
			t.Errorf("%d: %+v, %d", n, got, int(e))
		}
	}
	if got, e := Pays(c.relay, p, Payment{To: at(8), Amount: most}); e != api.OK || !sameTx(got, x) {
		t.Errorf("%+v, %d", got, int(e))
	}
}

// P14.2: Make

// mustMake checks what Make answers where all is right.
func mustMake(t *testing.T, ids []digest.Hash, i int, x tx.Tx, block digest.Hash) Proof {
	t.Helper()
	p, e := Make(ids, i, x, block)
	want := Proof{Tx: written(t, x), Block: block, Index: uint32(i), Count: uint32(len(ids)), Way: wayOf(ids, i)}
	if e != api.OK || !same(p, want) {
		t.Errorf("Make of the %d-th of %d: %+v, %d; want %+v", i, len(ids), p, int(e), want)
	}
	return p
}

// mustntMake checks that Make answers an error, and nothing else.
func mustntMake(t *testing.T, what string, ids []digest.Hash, i int, x tx.Tx, want api.Errno) {
	t.Helper()
	for _, block := range []digest.Hash{{}, {7}} {
		if p, e := Make(ids, i, x, block); e != want || !none(p) {
			t.Errorf("%s: Make of the %d-th of %d: %+v, %d, want %d", what, i, len(ids), p, int(e), int(want))
		}
	}
}

func TestMakeOfEachPlace(t *testing.T) {
	for n := 1; n <= 20; n++ {
		l := several(0, n)
		ids := idsOf(t, l)
		for i, x := range l {
			for _, block := range []digest.Hash{{}, {31: 1}, digest.Hash(row(5, 32))} {
				p := mustMake(t, ids, i, x, block)
				mustTell(t, "made", p)
				if !climbs(rootOf(ids), doubled(p.Tx), int64(p.Index), int64(p.Count), p.Way) {
					t.Errorf("the %d-th of %d doesn't climb", i, n)
				}
			}
		}
	}
}

func TestMakeByHand(t *testing.T) {
	l := several(0, 3)
	a := idsOf(t, l)
	for i, way := range [][]digest.Hash{{a[1], pair(a[2], a[2])}, {a[0], pair(a[2], a[2])}, {a[2], pair(a[0], a[1])}} {
		want := Proof{Tx: written(t, l[i]), Block: digest.Hash{9}, Index: uint32(i), Count: 3, Way: way}
		if p, e := Make(a, i, l[i], digest.Hash{9}); e != api.OK || !same(p, want) {
			t.Errorf("the %d-th: %+v, %d", i, p, int(e))
		}
	}
}

// crowd answers so many unlike hashes, the i-th of which is a transaction's.
func crowd(t testing.TB, n, i int, x tx.Tx) []digest.Hash {
	ids := hashes(9, n)
	if i < n {
		ids[i] = doubled(written(t, x))
	}
	return ids
}

// Of the most there may be the way is the longest one; of one more there is none.
func TestMakeOfManyHashes(t *testing.T) {
	x := numbered(4)
	for _, n := range []int{leaves - 1, leaves} {
		for _, i := range []int{0, 40000, n - 1} {
			ids := crowd(t, n, i, x)
			p := mustMake(t, ids, i, x, digest.Hash{})
			if len(p.Way) != 16 {
				t.Errorf("a way of %d", len(p.Way))
			}
			mustTell(t, "many", p)
			first := mined(t, header.Header{Root: rootOf(ids), Time: start, Bits: half})
			r, e := relay.New(adjust.Rules{Every: 2016, Span: pace, Limit: half, Confirm: 1, First: first})
			if e != api.OK {
				t.Fatal(e)
			}
			p.Block = first.Hash()
			if got, e := Check(r, p); e != api.OK || !sameTx(got, x) {
				t.Errorf("the %d-th of %d: %+v, %d", i, n, got, int(e))
			}
			for _, way := range [][]digest.Hash{p.Way[:15], append(slices.Clone(p.Way), digest.Hash{}), append(slices.Clone(p.Way), p.Way...)} {
				p.Way = way
				if got, e := Check(r, p); e != api.ErrProof || !noTx(got) {
					t.Errorf("the %d-th of %d, by a way of %d: %+v, %d", i, n, len(way), got, int(e))
				}
			}
		}
	}
	for _, n := range []int{leaves + 1, leaves + 2, 2 * leaves, 2*leaves + 1} {
		for _, i := range []int{0, n - 1, -1, n} {
			mustntMake(t, "too many", crowd(t, n, max(i, 0), x), i, x, api.ErrLong)
		}
	}
}

func TestMakeOfAPlaceThatThereIsnt(t *testing.T) {
	for _, n := range sizes {
		l := several(0, n)
		ids := idsOf(t, l)
		for _, i := range []int{-1, -2, -n, n, n + 1, 2 * n, 65536, 1 << 31, 1<<31 - 1, -1 << 31, 1 << 32, 1<<32 + n - 1, math.MinInt, math.MaxInt} {
			if 0 <= i && i < n {
				continue
			}
			for _, x := range []tx.Tx{l[0], l[n-1], numbered(1000)} {
				mustntMake(t, "no place", ids, i, x, api.ErrArg)
			}
		}
	}
}

func TestMakeOfNoHashes(t *testing.T) {
	for _, ids := range [][]digest.Hash{nil, {}} {
		for _, i := range []int{0, -1, 1, math.MaxInt, math.MinInt} {
			mustntMake(t, "no hashes", ids, i, numbered(1), api.ErrFew)
		}
	}
}

// unwritable are transactions that have no bytes, by the error.
func unwritable(t testing.TB) map[api.Errno][]tx.Tx {
	x := numbered(1)
	noIns, noOuts, key, locked := copiedTx(x), copiedTx(x), copiedTx(x), copiedTx(x)
	noIns.Ins, noOuts.Outs = nil, nil
	key.Ins[0].Key, locked.Outs[0].Lock = make([]byte, 521), make([]byte, 521)
	ins, outs := copiedTx(x), copiedTx(x)
	ins.Ins, outs.Outs = make([]tx.In, 65), make([]tx.Out, 65)
	over := copiedTx(x)
	over.Outs[2].Pays = most + 1
	return map[api.Errno][]tx.Tx{
		api.ErrFew:  {{}, noIns, noOuts},
		api.ErrLong: {key, locked, ins, outs, sized(t, 64), sized(t, 4097), sized(t, 5000)},
		api.ErrOver: {over},
	}
}

func TestMakeOfATransactionThatCantBeWritten(t *testing.T) {
	l := several(0, 3)
	for want, all := range unwritable(t) {
		for _, x := range all {
			for i := range 3 {
				mustntMake(t, "unwritable", idsOf(t, l), i, x, want)
			}
		}
	}
}

func TestMakeOfAnotherTransaction(t *testing.T) {
	for _, n := range sizes {
		l := several(0, n)
		ids := idsOf(t, l)
		for i := range n {
			for j, x := range append(l, several(100, 2)...) {
				if j != i {
					mustntMake(t, "another one", ids, i, x, api.ErrProof)
				}
			}
			for bit := range 256 {
				other := slices.Clone(ids)
				other[i][bit/8] ^= 1 << (bit % 8)
				mustntMake(t, "another hash", other, i, l[i], api.ErrProof)
			}
		}
	}
	once := digest.Hash(sha256.Sum256(written(t, numbered(1))))
	mustntMake(t, "the sum but once", []digest.Hash{once}, 0, numbered(1), api.ErrProof)
	mustntMake(t, "noughts", []digest.Hash{{}}, 0, numbered(1), api.ErrProof)
}

// The errors of chapter 9 go ahead of those of chapter 10, and both ahead of ErrProof.
func TestMakeOfSeveralErrors(t *testing.T) {
	ids := idsOf(t, several(0, 3))
	long := hashes(1, leaves+1)
	for want, all := range unwritable(t) {
		for _, x := range all {
			for _, i := range []int{0, -1, 3, leaves + 1, math.MinInt, math.MaxInt} {
				mustntMake(t, "no hashes too", nil, i, x, want)
				mustntMake(t, "some hashes too", ids, i, x, want)
				mustntMake(t, "too many hashes too", long, i, x, want)
			}
		}
	}
	both := tx.Tx{Outs: []tx.Out{{Pays: most + 1, Lock: make([]byte, 521)}}}
	mustntMake(t, "all that a transaction lacks", long, -1, both, api.ErrFew)
	for _, i := range []int{0, -1, leaves + 1, math.MaxInt} {
		mustntMake(t, "too many, no place, another one", long, i, numbered(1), api.ErrLong)
	}
	mustntMake(t, "no place, another one", ids, 3, numbered(1000), api.ErrArg)
}

// Of hashes that are alike a proof is made too; it holds where it climbs.
func TestMakeOfLikeHashes(t *testing.T) {
	x, y := numbered(1), numbered(2)
	a, b := doubled(written(t, x)), doubled(written(t, y))
	for _, ids := range [][]digest.Hash{{a, a}, {a, a, a}, {a, b, b}, {a, b, a, b}, {a, a, b, b}} {
		first := mined(t, header.Header{Root: rootOf(ids), Time: start, Bits: half})
		c := begin(t, 1, several(0, 1))
		r, e := relay.New(adjust.Rules{Every: 2016, Span: pace, Limit: half, Confirm: 1, First: first})
		if e != api.OK {
			t.Fatal(e)
		}
		c.relay = r
		c.blocks[0] = block{head: first, hash: first.Hash(), ahead: -1}
		for i, id := range ids {
			which := x
			if id == b {
				which = y
			}
			c.must("alike", mustMake(t, ids, i, which, first.Hash()))
		}
	}
	p := mustMake(t, []digest.Hash{a, a}, 0, x, digest.Hash{})
	if climbs(pair(a, a), a, int64(p.Index), int64(p.Count), p.Way) {
		t.Error("two that are alike climb")
	}
}

// P14.3

// growth lays blocks of unlike transactions behind the best one and in branches, and keeps what was made for each of them.
type growth struct {
	*chain
	r      *rand.Rand
	branch int // the block behind which a branch grows now
	proofs []Proof
	next   int // the next transaction's number
}

// step lays a block more, and makes some of its proofs.
func (g *growth) step() {
	g.t.Helper()
	if g.r.Intn(12) == 0 && g.relay.Tree().Tips() < api.MaxForks {
		g.branch = len(g.blocks) - 1 - g.r.Intn(min(len(g.blocks), 6))
	}
	n := 1 + g.r.Intn(9)
	var at int
	switch {
	case g.r.Intn(3) == 0 || !g.mayGrow(g.branch):
		at = g.put(g.best, several(g.next, n))
	default:
		at = g.put(g.branch, several(g.next, n))
		g.branch = at
	}
	g.next += n
	b := g.blocks[at]
	for _, i := range []int{0, g.r.Intn(n), n - 1} {
		p, e := Make(b.ids, i, b.txs[i], b.hash)
		if e != api.OK {
			g.t.Fatal(e)
		}
		g.proofs = append(g.proofs, p)
	}
}

// mayGrow tells whether there is room behind a block.
func (g *growth) mayGrow(ahead int) bool {
	return g.relay.Tree().Tips() < api.MaxForks || !slices.ContainsFunc(g.blocks, func(b block) bool { return b.ahead == ahead })
}

func TestWhatIsMadeHolds(t *testing.T) {
	for _, confirm := range []int{1, 2, 3, 6, 20} {
		g := &growth{chain: begin(t, confirm, several(0, 1)), r: rand.New(rand.NewSource(int64(confirm))), next: 1}
		met := map[api.Errno]int{}
		for range 80 {
			g.step()
			for _, p := range g.proofs {
				met[g.must("made", p)]++
			}
			if t.Failed() {
				t.Fatalf("Confirm %d, %d blocks", confirm, len(g.blocks))
			}
		}
		if met[api.OK] < 100 || met[api.ErrDepth] < 100 || len(met) > 2 {
			t.Errorf("Confirm %d: %d held, %d weren't confirmed, of %d kinds", confirm, met[api.OK], met[api.ErrDepth], len(met))
		}
		if g.relay.Deepest() < 2 {
			t.Errorf("Confirm %d: it was turned by %d", confirm, g.relay.Deepest())
		}
	}
}

// What is made holds behind long rows of blocks, by bytes too.
func TestWhatIsMadeHoldsOverLongRows(t *testing.T) {
	c := begin(t, 100, several(0, 5))
	c.bury(c.put(c.best, several(100, 7)), 150)
	c.bury(c.put(c.best, several(200, 8)), 150)
	c.bury(c.put(c.best, several(300, 9)), 98)
	for at, b := range c.blocks {
		for i, x := range b.txs {
			p, e := Make(b.ids, i, x, b.hash)
			if e != api.OK {
				t.Fatal(e)
			}
			q, e := Parse(p.Bytes())
			if e != api.OK {
				t.Fatal(e)
			}
			c.mustFail(fmt.Sprintf("the %d-th of the block %d", i, at), q, wantedAt(c.depth(at), 100))
		}
	}
	last := c.proof(len(c.blocks)-99, 8)
	c.mustFail("the youngest one", last, api.ErrDepth)
	c.bury(c.best, 1)
	c.mustHold("the youngest one", last)
}

// In a relay that has no room left, of blocks or of tips, all is as elsewhere.
func TestWhatIsMadeHoldsInAFullRelay(t *testing.T) {
	c := begin(t, 6, several(0, 3))
	var beside []int
	for i := range api.MaxForks {
		beside = append(beside, c.put(0, several(10+10*i, 2)))
	}
	low := c.put(beside[0], several(500, 7))
	c.bury(low, api.MaxHeaders-len(c.blocks)-8)
	high := c.put(c.best, several(600, 8))
	last := c.put(c.bury(high, 5), several(700, 3))
	if c.relay.Tree().Len() >= api.MaxHeaders {
		t.Fatal("it is full too early")
	}
	c.bury(last, api.MaxHeaders-len(c.blocks))
	fork := mined(t, header.Header{Ahead: c.blocks[c.best].hash, Time: math.MaxUint32, Bits: half})
	if _, e := c.relay.Submit(fork.Bytes()); e != api.ErrFull || c.relay.Tree().Tips() != api.MaxForks {
		t.Fatalf("it isn't full: %d", int(e))
	}
	for at, want := range map[int]api.Errno{0: api.OK, beside[0]: api.OK, beside[1]: api.ErrDepth, low: api.OK, high: api.OK, last: api.ErrDepth} {
		for i, x := range c.blocks[at].txs {
			c.mustFail(fmt.Sprintf("the %d-th of the block %d", i, at), mustMake(t, c.blocks[at].ids, i, x, c.blocks[at].hash), want)
		}
	}
}

// What a turn took away comes again by another turn.
func TestWhatIsMadeBehindTurns(t *testing.T) {
	c := begin(t, 3, several(0, 2))
	trunk := c.bury(0, 2)
	one := c.put(trunk, several(10, 3))
	oneTop := c.bury(one, 2)
	c.mustHold("one", c.proof(one, 2))
	other := c.put(trunk, several(20, 3))
	otherTop := c.bury(other, 3)
	c.mustFail("one, turned away", c.proof(one, 2), api.ErrDepth)
	c.mustHold("the other one", c.proof(other, 1))
	moved := c.put(otherTop, c.blocks[one].txs) // what stood in the one stands there again
	c.bury(moved, 1)
	c.mustFail("not confirmed again", c.proof(moved, 2), api.ErrDepth)
	c.bury(c.best, 1)
	c.mustHold("again", c.proof(moved, 2))
	c.bury(oneTop, 5)
	c.mustHold("one, turned back", c.proof(one, 2))
	c.mustFail("the other one", c.proof(other, 1), api.ErrDepth)
	c.mustFail("there too", c.proof(moved, 2), api.ErrDepth)
	c.mustHold("ahead of all turns", c.proof(0, 1))
	if c.relay.Deepest() != 7 {
		t.Error(c.relay.Deepest())
	}
}

// told is all that a relay tells.
func (c *chain) told() string {
	text := fmt.Sprint(c.relay.Deepest(), c.relay.Tree().Len(), c.relay.Tree().Tips(), c.relay.Tree().Best())
	for _, b := range c.blocks {
		h, ok := c.relay.Tree().Header(b.hash)
		text += fmt.Sprint(c.relay.Depth(b.hash), c.relay.Confirmed(b.hash) == api.OK, h, ok)
	}
	return text
}

func TestCheckChangesAndKeepsNothing(t *testing.T) {
	c, right, _ := faulty(t)
	want, _ := tx.Parse(right.Tx)
	told := c.told()
	room := slices.Concat(right.Tx, row(filler, 50))
	ways := slices.Concat(right.Way, hashes(7, 3))
	p := right
	p.Tx, p.Way = room[:len(right.Tx)], ways[:len(right.Way)]
	paid := Payment{To: at(7), Amount: 50, Tag: []byte("tag")}
	x, _ := Check(c.relay, p)
	y, _ := Check(c.relay, p)
	z, e := Pays(c.relay, p, paid)
	if e != api.OK || !sameTx(x, want) || !sameTx(y, want) || !sameTx(z, want) {
		t.Fatalf("%+v, %+v, %+v, %d", x, y, z, int(e))
	}
	if !bytes.Equal(room, slices.Concat(right.Tx, row(filler, 50))) || !slices.Equal(ways, slices.Concat(right.Way, hashes(7, 3))) {
		t.Error("the proof was changed, or its spare room")
	}
	scrub(x)
	if !sameTx(y, want) || !sameTx(z, want) || !bytes.Equal(room[:len(right.Tx)], right.Tx) {
		t.Error("an answer shares memory with another one, or with the proof")
	}
	scrub(z)
	if !sameTx(y, want) || !bytes.Equal(room[:len(right.Tx)], right.Tx) || string(paid.Tag) != "tag" {
		t.Error("an answer shares memory with another one, with the proof, or the payment")
	}
	clear(room)
	clear(ways)
	if !sameTx(y, want) {
		t.Error("the proof is kept")
	}
	if c.told() != told {
		t.Error("the relay was changed")
	}
	c.mustHold("again", right)
}

// scrub overwrites all lists of a transaction, and their spare room.
func scrub(x tx.Tx) {
	for _, in := range x.Ins {
		clear(in.Key[:cap(in.Key)])
	}
	for _, out := range x.Outs {
		clear(out.Lock[:cap(out.Lock)])
	}
	clear(x.Ins[:cap(x.Ins)])
	clear(x.Outs[:cap(x.Outs)])
}

// What is refused changes nothing either, and the next proof is answered as before.
func TestErrorsChangeNothing(t *testing.T) {
	c, right, blocks := faulty(t)
	told := c.told()
	for _, h := range blocks {
		for _, mislead := range misled() {
			p := copied(right)
			p.Block = h
			mislead(&p)
			before := copied(p)
			Check(c.relay, p)
			Pays(c.relay, p, Payment{To: at(7), Amount: 51})
			if !same(p, before) {
				t.Error("the proof was changed")
			}
			c.mustHold("right", right)
		}
	}
	if c.told() != told {
		t.Error("the relay was changed")
	}
}

func TestInChangesAndKeepsNothing(t *testing.T) {
	x := numbered(3)
	before := copiedTx(x)
	room := slices.Concat([]byte("tag"), row(filler, 20))
	p := Payment{To: at(7), Amount: 50, Tag: room[:3]}
	for range 3 {
		if e := p.In(x); e != api.OK {
			t.Error(int(e))
		}
	}
	if !sameTx(x, before) || !bytes.Equal(room, slices.Concat([]byte("tag"), row(filler, 20))) {
		t.Error("what was handed in was changed, or its spare room")
	}
	room[0] = 'b'
	if e := p.In(x); e != api.ErrPay {
		t.Error("the tag was kept")
	}
	x.Outs[1].Lock[2] = 'b'
	if e := p.In(x); e != api.OK {
		t.Error("the transaction was kept")
	}
}

func TestMakeChangesAndKeepsNothing(t *testing.T) {
	for _, n := range []int{1, 2, 3, 7, 8} {
		l := several(0, n)
		room := append(idsOf(t, l), hashes(3, 4)...)
		ids := room[:n:cap(room)]
		before := slices.Clone(room)
		for i := range n {
			x := copiedTx(l[i])
			want := Proof{Tx: written(t, x), Block: digest.Hash{5}, Index: uint32(i), Count: uint32(n), Way: wayOf(ids, i)}
			p, _ := Make(ids, i, x, digest.Hash{5})
			q, _ := Make(ids, i, x, digest.Hash{5})
			Make(ids, n, x, digest.Hash{5})
			Make(ids, (i+1)%n, x, digest.Hash{5})
			if !slices.Equal(room, before) || !sameTx(x, l[i]) {
				t.Error("what was handed in was changed, or its spare room")
			}
			clear(p.Tx[:cap(p.Tx)])
			clear(p.Way[:cap(p.Way)])
			if !same(q, want) || !slices.Equal(room, before) || !sameTx(x, l[i]) {
				t.Error("an answer shares memory with another one, or with what was handed in")
			}
			scrub(x)
			clear(room)
			if !same(q, want) {
				t.Error("what was handed in is kept")
			}
			copy(room, before)
		}
	}
}
