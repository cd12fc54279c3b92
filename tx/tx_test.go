package tx

import (
	"bytes"
	"crypto/sha256"
	"encoding/binary"
	"encoding/hex"
	"fmt"
	"iter"
	"math"
	"math/rand"
	"slices"
	"testing"

	"pontage/api"
	"pontage/digest"
	"pontage/lock"
	"pontage/money"
)

const (
	most     = 1 << 62 // of an amount
	least    = 60      // bytes of a transaction: with one input without a key, and one output without a lock
	countAt  = 4       // where the count of the least one's inputs stands
	keyAt    = 41      // the count of its key's bytes
	outsAt   = 46      // the count of its outputs
	paysAt   = 47      // how much its output pays
	lockedAt = 55      // the count of its lock's bytes
	filler   = 0xa5
)

// row answers so many unlike bytes, the first of which is as told.
func row(first byte, n int) []byte {
	b := make([]byte, n)
	for i := range b {
		b[i] = first + byte(i)
	}
	return b
}

// at is an address of unlike bytes, the first of which is as told.
func at(first byte) lock.Address {
	return lock.Address(row(first, 20))
}

// toAddress answers the bytes of a lock to an address, as chapter 8 has them.
func toAddress(a lock.Address) []byte {
	return slices.Concat([]byte{118, 169, 20}, a[:], []byte{136, 172})
}

// toTag answers the bytes of a lock that is a tag, as chapter 8 has them.
func toTag(tag string) []byte {
	return slices.Concat([]byte{106, byte(len(tag))}, []byte(tag))
}

// keyOf answers the key of an address, as chapter 8 has it.
func keyOf(a lock.Address) []byte {
	return slices.Concat([]byte{20}, a[:])
}

// ins answers so many inputs, each unlike the other ones.
func ins(n int) []In {
	var l []In
	for i := range n {
		l = append(l, In{From: digest.Hash{0: byte(i), 31: 7}, Index: uint32(i), Sequence: uint32(1000 + i)})
	}
	return l
}

// outs answers so many outputs, each unlike the other ones.
func outs(n int) []Out {
	var l []Out
	for i := range n {
		l = append(l, Out{Pays: money.Amount(i + 1)})
	}
	return l
}

// plain answers a transaction of one input and one output, with a key and a lock.
func plain(key, locked []byte) Tx {
	return Tx{Ins: []In{{Key: key}}, Outs: []Out{{Lock: locked}}}
}

// sized answers a transaction of so many bytes: its outputs' locks are of noughts.
func sized(t *testing.T, n int) Tx {
	t.Helper()
	x := plain(nil, nil)
	for left := n - least; left > 0; {
		if left <= 252 {
			x.Outs[len(x.Outs)-1].Lock = make([]byte, left)
			break
		}
		x.Outs[len(x.Outs)-1].Lock = make([]byte, 200)
		x.Outs = append(x.Outs, Out{})
		left -= 209
	}
	b, _, _ := laid(x)
	if len(b) != n {
		t.Fatalf("of %d bytes, not %d", len(b), n)
	}
	return x
}

// counted answers a count and so many bytes, as chapter 1 has them.
func counted(b []byte) []byte {
	if len(b) < 253 {
		return slices.Concat([]byte{byte(len(b))}, b)
	}
	return slices.Concat([]byte{253}, binary.LittleEndian.AppendUint16(nil, uint16(len(b))), b)
}

// laid answers a transaction's bytes, as the chapter has them, and what Bytes is to answer.
func laid(x Tx) (all, want []byte, e api.Errno) {
	if len(x.Ins) == 0 || len(x.Outs) == 0 {
		return nil, nil, api.ErrFew
	}
	if len(x.Ins) > 64 || len(x.Outs) > 64 {
		return nil, nil, api.ErrLong
	}
	long, over := false, false
	b := binary.LittleEndian.AppendUint32(nil, x.Version)
	b = append(b, byte(len(x.Ins)))
	for _, in := range x.Ins {
		long = long || len(in.Key) > 520
		b = append(b, in.From[:]...)
		b = binary.LittleEndian.AppendUint32(b, in.Index)
		b = append(b, counted(in.Key)...)
		b = binary.LittleEndian.AppendUint32(b, in.Sequence)
	}
	b = append(b, byte(len(x.Outs)))
	for _, out := range x.Outs {
		long = long || len(out.Lock) > 520
		over = over || out.Pays > most
		b = binary.LittleEndian.AppendUint64(b, uint64(out.Pays))
		b = append(b, counted(out.Lock)...)
	}
	b = binary.LittleEndian.AppendUint32(b, x.LockTime)
	switch {
	case long || len(b) > 4096 || len(b) == 64:
		return b, nil, api.ErrLong
	case over:
		return b, nil, api.ErrOver
	}
	return b, b, api.OK
}

// same tells whether two transactions are one; nil and empty lists are.
func same(x, y Tx) bool {
	return x.Version == y.Version && x.LockTime == y.LockTime &&
		slices.EqualFunc(x.Ins, y.Ins, func(a, b In) bool {
			return a.From == b.From && a.Index == b.Index && a.Sequence == b.Sequence && bytes.Equal(a.Key, b.Key)
		}) &&
		slices.EqualFunc(x.Outs, y.Outs, func(a, b Out) bool {
			return a.Pays == b.Pays && bytes.Equal(a.Lock, b.Lock)
		})
}

// zero tells whether a transaction is its zero value.
func zero(x Tx) bool {
	return x.Version == 0 && x.Ins == nil && x.Outs == nil && x.LockTime == 0
}

// doubled answers the library's sum of the sum of bytes.
func doubled(b []byte) digest.Hash {
	once := sha256.Sum256(b)
	return sha256.Sum256(once[:])
}

// mustTell looks that Bytes, Hash and Parse of a transaction are what the chapter says.
func mustTell(t *testing.T, what string, x Tx) {
	t.Helper()
	_, want, fault := laid(x)
	b, e := x.Bytes()
	if e != fault || !bytes.Equal(b, want) || e != api.OK && b != nil {
		t.Errorf("%s: Bytes: %x, %d, want %x, %d", what, b, int(e), want, int(fault))
		return
	}
	h, e := x.Hash()
	if fault != api.OK {
		if e != fault || h != (digest.Hash{}) {
			t.Errorf("%s: Hash: %x, %d, want noughts, %d", what, [32]byte(h), int(e), int(fault))
		}
		return
	}
	if e != api.OK || h != doubled(want) {
		t.Errorf("%s: Hash: %x, %d, want %x", what, [32]byte(h), int(e), [32]byte(doubled(want)))
	}
	y, e := Parse(b)
	if e != api.OK || !same(x, y) {
		t.Errorf("%s: Parse: %+v, %d, want %+v", what, y, int(e), x)
	}
}

// mustFail looks that Bytes and Hash of a transaction answer an error, and nothing else.
func mustFail(t *testing.T, what string, x Tx, want api.Errno) {
	t.Helper()
	if b, e := x.Bytes(); b != nil || e != want {
		t.Errorf("%s: Bytes: %d bytes, %d, want %d", what, len(b), int(e), int(want))
	}
	if h, e := x.Hash(); h != (digest.Hash{}) || e != want {
		t.Errorf("%s: Hash: %x, %d, want %d", what, [32]byte(h), int(e), int(want))
	}
}

// mustBytes answers a transaction's bytes.
func mustBytes(t *testing.T, x Tx) []byte {
	t.Helper()
	b, e := x.Bytes()
	if e != api.OK {
		t.Fatalf("%+v: %d", x, int(e))
	}
	return b
}

// mustParse answers the transaction of bytes, and looks that its bytes are these.
func mustParse(t *testing.T, what string, b []byte) Tx {
	t.Helper()
	x, e := Parse(b)
	if e != api.OK {
		t.Fatalf("%s: %x: %d", what, b, int(e))
	}
	if again := mustBytes(t, x); !bytes.Equal(again, b) {
		t.Errorf("%s: %x became %x", what, b, again)
	}
	return x
}

// mustRefuse looks that bytes are no transaction's.
func mustRefuse(t *testing.T, what string, b []byte) {
	t.Helper()
	if x, e := Parse(b); e != api.ErrForm || !zero(x) {
		t.Errorf("%s: Parse of %d bytes, %.70x: %+v, %d", what, len(b), b, x, int(e))
	}
}

// mixed is a transaction with some of everything.
func mixed() Tx {
	return Tx{
		Version: 2,
		Ins: []In{
			{From: digest.Hash(row(1, 32)), Index: 3, Key: keyOf(at(7)), Sequence: 0x01020304},
			{From: digest.Hash(row(50, 32)), Index: 0x0a0b0c0d, Key: []byte("no key"), Sequence: 5},
		},
		Outs: []Out{
			{Pays: 5, Lock: toAddress(at(9))},
			{Lock: toTag("hi")},
			{Pays: 0x0102030405060708, Lock: []byte("no lock")},
		},
		LockTime: 0x11223344,
	}
}

// first answers the chain's first transaction, its bytes, and the text of its hash.
func first(t *testing.T) (Tx, []byte, string) {
	t.Helper()
	unhex := func(s string) []byte {
		b, err := hex.DecodeString(s)
		if err != nil {
			t.Fatal(err)
		}
		return b
	}
	key := "04ffff001d0104455468652054696d65732030332f4a616e2f32303039204368616e63656c6c6f72206f6e20627269" +
		"6e6b206f66207365636f6e64206261696c6f757420666f722062616e6b73"
	locked := "4104678afdb0fe5548271967f1a67130b7105cd6a828e03909a67962e0ea1f61deb649f6bc3f4cef38c4f35504" +
		"e51ec112de5c384df7ba0b8d578a4c702b6bf11d5fac"
	x := Tx{
		Version: 1,
		Ins:     []In{{Index: math.MaxUint32, Key: unhex(key), Sequence: math.MaxUint32}},
		Outs:    []Out{{Pays: 50 * api.Coin, Lock: unhex(locked)}},
	}
	b := unhex("01000000" + "01" + fmt.Sprintf("%064d", 0) + "ffffffff" + "4d" + key + "ffffffff" +
		"01" + "00f2052a01000000" + "43" + locked + "00000000")
	return x, b, "4a5e1e4baab89f3a32518a88c31bc87f618f76673e2cc77ab2127b7afdeda33b"
}

// P9.1

func TestFirstTransaction(t *testing.T) {
	x, b, text := first(t)
	if got := mustBytes(t, x); !bytes.Equal(got, b) {
		t.Errorf("Bytes: %x", got)
	}
	if h, e := x.Hash(); e != api.OK || h.Text() != text {
		t.Errorf("Hash: %s, %d", h.Text(), int(e))
	}
	if y := mustParse(t, "the first one", b); !same(x, y) {
		t.Errorf("Parse: %+v", y)
	}
	mustTell(t, "the first one", x)
}

func TestExample(t *testing.T) {
	x := Tx{Ins: []In{{}}, Outs: []Out{{Pays: 5, Lock: toAddress(at(1))}}}
	b := mustBytes(t, x)
	if len(b) != 10+41+34 {
		t.Error(len(b))
	}
	want := slices.Concat(make([]byte, 4), []byte{1}, make([]byte, 41), []byte{1, 5, 0, 0, 0, 0, 0, 0, 0, 25},
		[]byte{118, 169, 20}, row(1, 20), []byte{136, 172}, make([]byte, 4))
	if !bytes.Equal(b, want) {
		t.Errorf("%x", b)
	}
	mustTell(t, "the example", x)
}

func TestBytesOfEveryField(t *testing.T) {
	want := slices.Concat(
		[]byte{2, 0, 0, 0},
		[]byte{2},
		row(1, 32), []byte{3, 0, 0, 0}, []byte{21, 20}, row(7, 20), []byte{4, 3, 2, 1},
		row(50, 32), []byte{13, 12, 11, 10}, []byte{6}, []byte("no key"), []byte{5, 0, 0, 0},
		[]byte{3},
		[]byte{5, 0, 0, 0, 0, 0, 0, 0}, []byte{25, 118, 169, 20}, row(9, 20), []byte{136, 172},
		[]byte{0, 0, 0, 0, 0, 0, 0, 0}, []byte{4, 106, 2, 'h', 'i'},
		[]byte{8, 7, 6, 5, 4, 3, 2, 1}, []byte{7}, []byte("no lock"),
		[]byte{0x44, 0x33, 0x22, 0x11},
	)
	if b := mustBytes(t, mixed()); !bytes.Equal(b, want) {
		t.Errorf("Bytes: %x, want %x", b, want)
	}
	if x := mustParse(t, "mixed", want); !same(x, mixed()) {
		t.Errorf("Parse: %+v", x)
	}
	mustTell(t, "mixed", mixed())
}

func TestNumbersOfInputsAndOutputs(t *testing.T) {
	faults := map[int]api.Errno{0: api.ErrFew, 1: api.OK, 2: api.OK, 63: api.OK, 64: api.OK, 65: api.ErrLong, 66: api.ErrLong,
		128: api.ErrLong, 256: api.ErrLong, 257: api.ErrLong, 320: api.ErrLong, 65537: api.ErrLong}
	for n, want := range faults {
		for what, x := range map[string]Tx{
			"inputs":  {Ins: ins(n), Outs: outs(1)},
			"outputs": {Ins: ins(1), Outs: outs(n)},
		} {
			if want != api.OK {
				mustFail(t, fmt.Sprint(n, " ", what), x, want)
				continue
			}
			mustTell(t, fmt.Sprint(n, " ", what), x)
		}
	}
	both := Tx{Ins: ins(64), Outs: outs(64)}
	if b := mustBytes(t, both); len(b) != 10+64*41+64*9 || b[4] != 64 || b[5+64*41] != 64 {
		t.Error(len(b))
	}
	mustTell(t, "64 of both", both)
}

func TestEmptyListsAreNone(t *testing.T) {
	for what, x := range map[string]Tx{
		"nothing":          {},
		"nil inputs":       {Outs: outs(1)},
		"empty inputs":     {Ins: []In{}, Outs: outs(1)},
		"none of a list":   {Ins: ins(3)[:0], Outs: outs(1)},
		"nil outputs":      {Ins: ins(1)},
		"empty outputs":    {Ins: ins(1), Outs: []Out{}},
		"none of outputs":  {Ins: ins(1), Outs: outs(3)[:0]},
		"both empty":       {Ins: []In{}, Outs: []Out{}},
		"none but numbers": {Version: 1, LockTime: 1},
	} {
		mustFail(t, what, x, api.ErrFew)
	}
}

func TestLengthsOfKeysAndLocks(t *testing.T) {
	for n, want := range map[int]api.Errno{0: api.OK, 1: api.OK, 2: api.OK, 252: api.OK, 253: api.OK, 254: api.OK, 255: api.OK, 256: api.OK,
		519: api.OK, 520: api.OK, 521: api.ErrLong, 522: api.ErrLong, 1000: api.ErrLong, 5000: api.ErrLong, 1 << 16: api.ErrLong, 1<<16 + 1: api.ErrLong} {
		for what, x := range map[string]Tx{
			"key":                {Ins: []In{{Key: row(1, n)}}, Outs: outs(2)},
			"lock":               {Ins: ins(2), Outs: []Out{{Lock: row(1, n)}}},
			"the last one's key": {Ins: append(ins(3), In{Key: row(1, n)}), Outs: outs(2)},
			"the last one's":     {Ins: ins(2), Outs: append(outs(3), Out{Lock: row(1, n)})},
			"key, of several":    {Ins: append([]In{{Key: row(1, n)}}, ins(3)...), Outs: outs(2)},
			"lock, of several":   {Ins: ins(2), Outs: append([]Out{{Lock: row(1, n)}}, outs(3)...)},
		} {
			if want != api.OK {
				mustFail(t, fmt.Sprint(n, " bytes: ", what), x, want)
				continue
			}
			mustTell(t, fmt.Sprint(n, " bytes: ", what), x)
		}
	}
	b := mustBytes(t, plain(nil, nil))
	for _, empty := range [][]byte{{}, row(1, 9)[:0]} {
		if got := mustBytes(t, plain(empty, empty)); !bytes.Equal(got, b) || len(got) != least {
			t.Errorf("%x, with nil %x", got, b)
		}
	}
}

func TestCountsOfLengths(t *testing.T) {
	for n, want := range map[int][]byte{0: {0}, 1: {1}, 252: {252}, 253: {253, 253, 0}, 256: {253, 0, 1}, 520: {253, 8, 2}} {
		if b := mustBytes(t, plain(row(1, n), nil)); !bytes.HasPrefix(b[keyAt:], append(want, row(1, n)...)) {
			t.Errorf("a key of %d: %x", n, b)
		}
		if b := mustBytes(t, plain(nil, row(1, n))); !bytes.HasPrefix(b[lockedAt:], append(want, row(1, n)...)) {
			t.Errorf("a lock of %d: %x", n, b)
		}
	}
}

func TestAmounts(t *testing.T) {
	for _, pays := range []money.Amount{0, 1, 255, 1 << 32, api.Coin, most - 1, most, most + 1, 1<<62 + 1<<8, 1 << 63, 1<<63 + 1, math.MaxUint64} {
		for what, all := range map[string][]Out{
			"alone":  {{Pays: pays}},
			"ahead":  {{Pays: pays}, {Pays: 1}, {Pays: 2}},
			"behind": {{Pays: 1}, {Pays: 2}, {Pays: pays}},
			"amid":   {{Pays: 1}, {Pays: pays}, {Pays: 2}},
		} {
			x := Tx{Ins: ins(1), Outs: all}
			if pays > most {
				mustFail(t, fmt.Sprint(pays, " ", what), x, api.ErrOver)
				continue
			}
			mustTell(t, fmt.Sprint(pays, " ", what), x)
		}
	}
	// What they pay in all is no matter of Bytes.
	mustTell(t, "more than MaxAmount in all", Tx{Ins: ins(1), Outs: []Out{{Pays: most}, {Pays: most}, {Pays: most}, {Pays: most}}})
}

func TestWholeSizes(t *testing.T) {
	for n, want := range map[int]api.Errno{60: api.OK, 61: api.OK, 62: api.OK, 63: api.OK, 64: api.ErrLong, 65: api.OK, 66: api.OK, 128: api.OK, 320: api.OK,
		4094: api.OK, 4095: api.OK, 4096: api.OK, 4097: api.ErrLong, 4098: api.ErrLong, 4160: api.ErrLong, 5000: api.ErrLong, 8192: api.ErrLong} {
		x := sized(t, n)
		if want != api.OK {
			mustFail(t, fmt.Sprint(n, " bytes"), x, want)
			continue
		}
		if b := mustBytes(t, x); len(b) != n {
			t.Errorf("%d bytes: %d", n, len(b))
		}
		mustTell(t, fmt.Sprint(n, " bytes"), x)
	}
	for n := range 5 { // 64 bytes in each way
		mustFail(t, "64 bytes", plain(row(1, n), row(1, 4-n)), api.ErrLong)
		mustTell(t, "63 bytes", plain(row(1, n), row(1, 3-min(n, 3))))
		mustTell(t, "65 bytes", plain(row(1, n), row(1, 5-n)))
	}
	greatest := Tx{Ins: ins(64), Outs: outs(64)}
	for i := range greatest.Ins {
		greatest.Ins[i].Key = row(1, 520)
	}
	for i := range greatest.Outs {
		greatest.Outs[i].Lock = row(1, 520)
	}
	mustFail(t, "as long as its lists, keys and locks may be", greatest, api.ErrLong)
	keys := Tx{Ins: ins(8), Outs: outs(1)}
	for i := range keys.Ins {
		keys.Ins[i].Key = row(1, 520)
	}
	mustFail(t, "keys that are long together", keys, api.ErrLong)
}

func TestEndsOfNumbers(t *testing.T) {
	for _, n := range []uint32{0, 1, 255, 256, 1 << 16, 1 << 24, 1 << 31, math.MaxUint32 - 1, math.MaxUint32} {
		x := plain(nil, nil)
		x.Version, x.LockTime = n, 7
		mustTell(t, fmt.Sprint("version ", n), x)
		x.Version, x.LockTime = 7, n
		mustTell(t, fmt.Sprint("lock time ", n), x)
		x.Ins[0].Index, x.Ins[0].Sequence = n, 7
		mustTell(t, fmt.Sprint("number ", n), x)
		x.Ins[0].Index, x.Ins[0].Sequence = 7, n
		mustTell(t, fmt.Sprint("sequence ", n), x)
		x.Version, x.LockTime, x.Ins[0].Index, x.Ins[0].From = n, n, n, digest.Hash(bytes.Repeat([]byte{255}, 32))
		mustTell(t, fmt.Sprint("all ", n), x)
	}
}

// Of several faults the one that the chapter names first is told.
func TestSeveralFaults(t *testing.T) {
	over := []Out{{Pays: most + 1}}
	long := []Out{{Lock: row(1, 521)}}
	longKey := []In{{Key: row(1, 521)}}
	for what, c := range map[string]struct {
		x    Tx
		want api.Errno
	}{
		"no inputs, too many outputs":            {Tx{Outs: outs(65)}, api.ErrFew},
		"no inputs, a long lock":                 {Tx{Outs: long}, api.ErrFew},
		"no inputs, too much paid":               {Tx{Outs: over}, api.ErrFew},
		"no inputs, all of it":                   {Tx{Outs: append(outs(65), Out{Pays: most + 1, Lock: row(1, 521)})}, api.ErrFew},
		"no outputs, too many inputs":            {Tx{Ins: ins(65)}, api.ErrFew},
		"no outputs, a long key":                 {Tx{Ins: longKey}, api.ErrFew},
		"too many inputs, too much paid":         {Tx{Ins: ins(65), Outs: over}, api.ErrLong},
		"too many outputs, too much paid":        {Tx{Ins: ins(1), Outs: append(outs(64), over...)}, api.ErrLong},
		"a long key, too much paid":              {Tx{Ins: longKey, Outs: over}, api.ErrLong},
		"a long lock, too much paid by it":       {Tx{Ins: ins(1), Outs: []Out{{Pays: most + 1, Lock: row(1, 521)}}}, api.ErrLong},
		"a long lock, too much paid ahead of it": {Tx{Ins: ins(1), Outs: append(over, long...)}, api.ErrLong},
		"a long lock, too much paid behind it":   {Tx{Ins: ins(1), Outs: append(long, over...)}, api.ErrLong},
		"64 bytes, too much paid":                {Tx{Ins: ins(1), Outs: []Out{{Pays: most + 1, Lock: row(1, 4)}}}, api.ErrLong},
		"65 bytes, too much paid":                {Tx{Ins: ins(1), Outs: []Out{{Pays: most + 1, Lock: row(1, 5)}}}, api.ErrOver},
		"too many of both":                       {Tx{Ins: ins(65), Outs: outs(65)}, api.ErrLong},
	} {
		mustFail(t, what, c.x, c.want)
		if _, _, e := laid(c.x); e != c.want {
			t.Errorf("%s: laid: %d", what, int(e))
		}
	}
	whole := sized(t, 4097)
	whole.Outs[0].Pays = most + 1
	mustFail(t, "4097 bytes, too much paid", whole, api.ErrLong)
	whole = sized(t, 4096)
	whole.Outs[0].Pays = math.MaxUint64
	mustFail(t, "4096 bytes, too much paid", whole, api.ErrOver)
}

func TestParseOfNothing(t *testing.T) {
	mustRefuse(t, "nil", nil)
	mustRefuse(t, "empty", []byte{})
	for c := range 256 {
		mustRefuse(t, "one byte", []byte{byte(c)})
	}
	for n := range 300 {
		mustRefuse(t, "noughts", make([]byte, n))
		if ones := bytes.Repeat([]byte{1}, n); n == 62 { // one input with a key of one byte, one output with a lock of one byte
			mustParse(t, "ones", ones)
		} else {
			mustRefuse(t, "ones", ones)
		}
		mustRefuse(t, "255", bytes.Repeat([]byte{255}, n))
	}
	mustRefuse(t, "many noughts", make([]byte, 4096))
	mustRefuse(t, "many noughts", make([]byte, 4097))
	mustRefuse(t, "a lot of noughts", make([]byte, 1<<20))
}

func TestParseOfOtherLengths(t *testing.T) {
	_, known, _ := first(t)
	for _, b := range [][]byte{mustBytes(t, plain(nil, nil)), mustBytes(t, mixed()), known, mustBytes(t, Tx{Ins: ins(64), Outs: outs(64)}), mustBytes(t, sized(t, 4096))} {
		for n := range b {
			mustRefuse(t, "a beginning", b[:n])
			if _, ok := told(b[n+1:]); !ok { // the first bytes of a key may be read as those ahead of it
				mustRefuse(t, "an end", b[n+1:])
			}
		}
		for _, more := range [][]byte{{0}, {1}, {255}, make([]byte, 4), make([]byte, 9), make([]byte, 41), b, make([]byte, 5000)} {
			mustRefuse(t, "more behind it", slices.Concat(b, more))
		}
		mustRefuse(t, "one more ahead of it", slices.Concat([]byte{0}, b))
		mustParse(t, "whole", b)
	}
}

func TestParseOfWrongCounts(t *testing.T) {
	b := mustBytes(t, Tx{Version: 1, Ins: ins(2), Outs: outs(2), LockTime: 9})
	behind := 5 + 2*41 // the count of outputs
	if b[countAt] != 2 || b[behind] != 2 {
		t.Fatalf("%x", b)
	}
	for c := range 256 {
		if c == 2 {
			continue
		}
		for _, i := range []int{countAt, behind} {
			changed := slices.Clone(b)
			changed[i] = byte(c)
			mustRefuse(t, fmt.Sprint("a count of ", c, " at ", i), changed)
		}
	}
	for _, longer := range [][]byte{{253, 2, 0}, {254, 2, 0, 0, 0}, {255, 2, 0, 0, 0, 0, 0, 0, 0}} {
		for _, i := range []int{countAt, behind} {
			mustRefuse(t, "a count written longer", slices.Replace(slices.Clone(b), i, i+1, longer...))
		}
	}
}

func TestParseOfManyAndOfNone(t *testing.T) {
	input, output := make([]byte, 41), make([]byte, 9)
	written := func(inCount, outCount []byte, n, m int) []byte {
		return slices.Concat([]byte{1, 0, 0, 0}, inCount, bytes.Repeat(input, n), outCount, bytes.Repeat(output, m), make([]byte, 4))
	}
	for _, n := range []int{1, 2, 64} {
		for _, m := range []int{1, 2, 64} {
			x := mustParse(t, "as many", written([]byte{byte(n)}, []byte{byte(m)}, n, m))
			if len(x.Ins) != n || len(x.Outs) != m {
				t.Error(n, m, len(x.Ins), len(x.Outs))
			}
		}
	}
	for _, n := range []int{0, 65, 66, 100, 252} {
		mustRefuse(t, fmt.Sprint(n, " inputs"), written([]byte{byte(n)}, []byte{1}, n, 1))
		mustRefuse(t, fmt.Sprint(n, " outputs"), written([]byte{1}, []byte{byte(n)}, 1, n))
		mustRefuse(t, fmt.Sprint(n, " outputs"), written([]byte{2}, []byte{byte(n)}, 2, n))
		mustRefuse(t, fmt.Sprint(n, " of both"), written([]byte{byte(n)}, []byte{byte(n)}, n, n))
	}
	mustRefuse(t, "256 outputs", written([]byte{1}, []byte{253, 0, 1}, 1, 256))
	mustRefuse(t, "257 outputs", written([]byte{1}, []byte{253, 1, 1}, 1, 257))
	mustRefuse(t, "2^32 + 1 inputs", written([]byte{255, 1, 0, 0, 0, 1, 0, 0, 0}, []byte{1}, 1, 1))
	mustRefuse(t, "2^64 - 1 outputs", written([]byte{1}, bytes.Repeat([]byte{255}, 9), 1, 1))
	mustRefuse(t, "no inputs, 64 outputs", written([]byte{0}, []byte{64}, 0, 64))
}

// threaded answers the bytes of a transaction whose key or lock, as told, stands as these counted bytes.
func threaded(key, locked []byte) []byte {
	return slices.Concat([]byte{1, 0, 0, 0, 1}, make([]byte, 36), key, make([]byte, 4), []byte{1}, make([]byte, 8), locked, make([]byte, 4))
}

func TestParseOfLengths(t *testing.T) {
	for _, n := range []int{0, 1, 251, 252, 253, 254, 255, 256, 519, 520} {
		if x := mustParse(t, "a key", threaded(counted(row(1, n)), []byte{0})); !bytes.Equal(x.Ins[0].Key, row(1, n)) {
			t.Error(n, x)
		}
		if x := mustParse(t, "a lock", threaded([]byte{0}, counted(row(1, n)))); !bytes.Equal(x.Outs[0].Lock, row(1, n)) {
			t.Error(n, x)
		}
	}
	for _, n := range []int{521, 522, 776, 1000, 3000} {
		mustRefuse(t, fmt.Sprint("a key of ", n), threaded(counted(row(1, n)), []byte{0}))
		mustRefuse(t, fmt.Sprint("a lock of ", n), threaded([]byte{0}, counted(row(1, n))))
	}
	for _, n := range []int{0, 1, 3, 4, 5, 20, 252} { // a length written longer than it need be
		for _, head := range [][]byte{{253, byte(n), 0}, {254, byte(n), 0, 0, 0}, {255, byte(n), 0, 0, 0, 0, 0, 0, 0}} {
			long := slices.Concat(head, row(1, n))
			mustRefuse(t, "a key's length", threaded(long, []byte{0}))
			mustRefuse(t, "a lock's length", threaded([]byte{0}, long))
		}
	}
	for _, n := range []int{253, 520} {
		for _, head := range [][]byte{{254, byte(n), byte(n >> 8), 0, 0}, {255, byte(n), byte(n >> 8), 0, 0, 0, 0, 0, 0}} {
			long := slices.Concat(head, row(1, n))
			mustRefuse(t, "a key's length", threaded(long, []byte{0}))
			mustRefuse(t, "a lock's length", threaded([]byte{0}, long))
		}
	}
	for _, n := range []int{1, 6, 252} { // one more, and one fewer than there are
		for _, c := range []int{n - 1, n + 1} {
			if c == 253 {
				continue
			}
			off := slices.Concat([]byte{byte(c)}, row(1, n))
			mustRefuse(t, "a key's length", threaded(off, []byte{0}))
			mustRefuse(t, "a lock's length", threaded([]byte{0}, off))
		}
	}
	for _, head := range [][]byte{{254, 8, 2, 0, 0}, {254, 0, 0, 1, 0}, {254, 255, 255, 255, 127}, {254, 255, 255, 255, 255}, {255, 0, 0, 0, 0, 1, 0, 0, 0}, bytes.Repeat([]byte{255}, 9)} {
		mustRefuse(t, "a great length", threaded(head, []byte{0}))
		mustRefuse(t, "a great length", threaded([]byte{0}, head))
	}
}

func TestParseOfAmounts(t *testing.T) {
	b := mustBytes(t, plain(nil, nil))
	if len(b) != least || b[outsAt] != 1 {
		t.Fatalf("%x", b)
	}
	for _, pays := range []uint64{0, 1, 1 << 32, most - 1, most, most + 1, 1<<62 + 1<<8, 1 << 63, math.MaxUint64} {
		binary.LittleEndian.PutUint64(b[paysAt:], pays)
		if pays > most {
			mustRefuse(t, fmt.Sprint("an output of ", pays), b)
			continue
		}
		if x := mustParse(t, fmt.Sprint("an output of ", pays), b); x.Outs[0].Pays != money.Amount(pays) {
			t.Error(pays, x)
		}
	}
	all := mustBytes(t, Tx{Ins: ins(1), Outs: outs(3)})
	for i := range 3 {
		changed := slices.Clone(all)
		changed[outsAt+1+9*i+7] = 0x41
		mustRefuse(t, "one of three outputs", changed)
		changed[outsAt+1+9*i+7] = 0x3f
		mustParse(t, "one of three outputs", changed)
	}
}

func TestParseOfWholeSizes(t *testing.T) {
	for _, n := range []int{60, 61, 62, 63, 65, 66, 128, 4095, 4096} {
		b, _, _ := laid(sized(t, n))
		if x := mustParse(t, fmt.Sprint(n, " bytes"), b); !same(x, sized(t, n)) {
			t.Error(n, x)
		}
	}
	for _, n := range []int{64, 4097, 4098, 4160, 5000, 8192} {
		b, _, _ := laid(sized(t, n))
		mustRefuse(t, fmt.Sprint(n, " bytes"), b)
	}
	for n := range 5 {
		mustRefuse(t, "64 bytes", threaded(counted(row(1, n)), counted(row(1, 4-n))))
	}
	mustRefuse(t, "64 noughts", make([]byte, 64))
}

func TestParseOfSeveralFaults(t *testing.T) {
	b, _, _ := laid(Tx{Ins: []In{{Key: row(1, 521)}}, Outs: []Out{{Pays: most + 1, Lock: row(1, 521)}}})
	mustRefuse(t, "long key and lock, too much paid", b)
	b, _, _ = laid(Tx{Ins: ins(1), Outs: []Out{{Pays: most + 1, Lock: row(1, 4)}}})
	mustRefuse(t, "64 bytes, too much paid", b)
	mustRefuse(t, "and short", b[:63])
	mustRefuse(t, "no inputs, no outputs", make([]byte, 10))
	mustRefuse(t, "no inputs, an output", slices.Concat(make([]byte, 5), []byte{1}, make([]byte, 13)))
	mustRefuse(t, "an input, no outputs", slices.Concat([]byte{1, 0, 0, 0, 1}, make([]byte, 41+1+4)))
}

// P9.2

// paid answers what Paid is to answer, and Total, if anyone is true.
func paid(x Tx, a lock.Address, anyone bool) (money.Amount, api.Errno) {
	sum := uint64(0)
	for _, out := range x.Outs {
		if !anyone && !bytes.Equal(out.Lock, toAddress(a)) {
			continue
		}
		if out.Pays > most {
			return 0, api.ErrArg
		}
		if sum += uint64(out.Pays); sum > most {
			return 0, api.ErrOver
		}
	}
	return money.Amount(sum), api.OK
}

// mustPay looks at what Paid answers.
func mustPay(t *testing.T, what string, x Tx, a lock.Address, want money.Amount, fault api.Errno) {
	t.Helper()
	if got, e := x.Paid(a); got != want || e != fault {
		t.Errorf("%s: Paid: %d, %d, want %d, %d", what, got, int(e), want, int(fault))
	}
	if got, e := paid(x, a, false); got != want || e != fault {
		t.Errorf("%s: paid: %d, %d, want %d, %d", what, got, int(e), want, int(fault))
	}
}

// mustTotal looks at what Total answers.
func mustTotal(t *testing.T, what string, x Tx, want money.Amount, fault api.Errno) {
	t.Helper()
	if got, e := x.Total(); got != want || e != fault {
		t.Errorf("%s: Total: %d, %d, want %d, %d", what, got, int(e), want, int(fault))
	}
	if got, e := paid(x, lock.Address{}, true); got != want || e != fault {
		t.Errorf("%s: paid: %d, %d, want %d, %d", what, got, int(e), want, int(fault))
	}
}

// gone answers all that an iterator tells.
func gone(l iter.Seq[[]byte]) []string {
	var all []string
	for tag := range l {
		all = append(all, string(tag))
	}
	return all
}

func TestNoOutputsAndNoInputs(t *testing.T) {
	for _, x := range []Tx{{}, {Ins: []In{}, Outs: []Out{}}, {Ins: ins(3)}, {Ins: []In{{Key: keyOf(at(1))}}}} {
		mustPay(t, "no outputs", x, at(1), 0, api.OK)
		mustPay(t, "no outputs", x, lock.Address{}, 0, api.OK)
		mustTotal(t, "no outputs", x, 0, api.OK)
		if l := gone(x.Tags()); l != nil {
			t.Error(l)
		}
	}
	for _, x := range []Tx{{}, {Ins: []In{}, Outs: []Out{}}, {Outs: outs(3)}, {Outs: []Out{{Pays: 1, Lock: toAddress(at(1))}}}} {
		for _, a := range []lock.Address{at(1), {}} {
			if x.Spends(a) {
				t.Error(x, a)
			}
		}
	}
}

func TestPaidByEachKindOfLock(t *testing.T) {
	others := [][]byte{nil, {}, {1}, toAddress(at(1))[:24], append(toAddress(at(1)), 0), keyOf(at(1)), row(1, 20), toAddress(at(1))[1:],
		slices.Concat([]byte{118, 169, 21}, row(1, 20), []byte{136, 172}), slices.Concat([]byte{118, 169, 20}, row(1, 20), []byte{136, 171}),
		toTag("hi"), toTag(string(row(1, 20))), toTag(string(toAddress(at(1)))), toTag(""), row(1, 520), row(1, 521), make([]byte, 5000)}
	for _, locked := range others {
		x := Tx{Ins: ins(1), Outs: []Out{{Pays: 7, Lock: locked}}}
		for _, a := range []lock.Address{at(1), {}, at(2)} {
			mustPay(t, fmt.Sprintf("%x", locked), x, a, 0, api.OK)
		}
		mustTotal(t, fmt.Sprintf("%x", locked), x, 7, api.OK)
		x.Outs = append(x.Outs, Out{Pays: 5, Lock: toAddress(at(1))}, Out{Pays: 4, Lock: toAddress(lock.Address{})})
		mustPay(t, fmt.Sprintf("beside %x", locked), x, at(1), 5, api.OK)
		mustPay(t, fmt.Sprintf("beside %x", locked), x, lock.Address{}, 4, api.OK)
		mustPay(t, fmt.Sprintf("beside %x", locked), x, at(2), 0, api.OK)
		mustTotal(t, fmt.Sprintf("beside %x", locked), x, 16, api.OK)
	}
}

func TestPaidBySeveralOutputsAndByNone(t *testing.T) {
	x := Tx{Outs: []Out{
		{Pays: 1, Lock: toAddress(at(1))},
		{Pays: 20, Lock: toAddress(at(2))},
		{Pays: 300, Lock: toAddress(at(1))},
		{Pays: 4000, Lock: toTag("hi")},
		{Pays: 50000, Lock: nil},
		{Pays: 0, Lock: toAddress(at(3))},
		{Pays: 600000, Lock: toAddress(at(1))},
	}}
	mustPay(t, "by three", x, at(1), 600301, api.OK)
	mustPay(t, "by one", x, at(2), 20, api.OK)
	mustPay(t, "by one of 0", x, at(3), 0, api.OK)
	mustPay(t, "by none", x, at(4), 0, api.OK)
	mustPay(t, "by none", x, lock.Address{}, 0, api.OK)
	mustTotal(t, "all", x, 654321, api.OK)
	near := at(1)
	for i := range near { // each byte of an address is looked at
		near[i] ^= 128
		mustPay(t, "one byte off", x, near, 0, api.OK)
		near[i] ^= 128
	}
	x = Tx{Outs: make([]Out, 1000)} // more than may be written
	for i := range x.Outs {
		x.Outs[i] = Out{Pays: money.Amount(i), Lock: toAddress(at(byte(i % 3)))}
	}
	mustPay(t, "by many", x, at(0), 166833, api.OK)
	mustTotal(t, "many", x, 499500, api.OK)
}

func TestSumsBeyondTheMost(t *testing.T) {
	mine, other := toAddress(at(1)), toAddress(at(2))
	for what, c := range map[string]struct {
		outs        []Out
		paid        money.Amount
		paidFault   api.Errno
		total       money.Amount
		totalFaults api.Errno
	}{
		"the most":                  {[]Out{{most, mine}}, most, api.OK, most, api.OK},
		"the most in two":           {[]Out{{most - 1, mine}, {1, mine}, {0, mine}}, most, api.OK, most, api.OK},
		"one more":                  {[]Out{{most, mine}, {1, mine}}, 0, api.ErrOver, 0, api.ErrOver},
		"one more, behind":          {[]Out{{1, mine}, {most, mine}}, 0, api.ErrOver, 0, api.ErrOver},
		"halves":                    {[]Out{{most / 2, mine}, {most/2 + 1, mine}}, 0, api.ErrOver, 0, api.ErrOver},
		"the most by each":          {[]Out{{most, mine}, {most, other}}, most, api.OK, 0, api.ErrOver},
		"the most by a tag":         {[]Out{{most, toTag("a")}, {5, mine}}, 5, api.OK, 0, api.ErrOver},
		"round 2^64":                {[]Out{{most, mine}, {most, mine}, {most, mine}, {most, mine}}, 0, api.ErrOver, 0, api.ErrOver},
		"round 2^64, and behind":    {[]Out{{most, mine}, {most, mine}, {most, mine}, {most, mine}, {3, mine}}, 0, api.ErrOver, 0, api.ErrOver},
		"other's above, ahead":      {[]Out{{most + 1, other}, {5, mine}}, 5, api.OK, 0, api.ErrArg},
		"other's above, behind":     {[]Out{{5, mine}, {most + 1, other}}, 5, api.OK, 0, api.ErrArg},
		"other's above, amid":       {[]Out{{5, mine}, {math.MaxUint64, nil}, {6, mine}}, 11, api.OK, 0, api.ErrArg},
		"a tag's above":             {[]Out{{5, mine}, {1 << 63, toTag("hi")}, {6, mine}}, 11, api.OK, 0, api.ErrArg},
		"own above":                 {[]Out{{most + 1, mine}}, 0, api.ErrArg, 0, api.ErrArg},
		"own above, ahead":          {[]Out{{most + 1, mine}, {5, mine}, {6, other}}, 0, api.ErrArg, 0, api.ErrArg},
		"own above, behind":         {[]Out{{6, other}, {5, mine}, {math.MaxUint64, mine}}, 0, api.ErrArg, 0, api.ErrArg},
		"own above, by 2^63":        {[]Out{{5, mine}, {1 << 63, mine}, {1 << 63, mine}}, 0, api.ErrArg, 0, api.ErrArg},
		"beyond ahead of above":     {[]Out{{most, mine}, {1, mine}, {most + 1, mine}}, 0, api.ErrOver, 0, api.ErrOver},
		"above ahead of beyond":     {[]Out{{most + 1, mine}, {most, mine}, {1, mine}}, 0, api.ErrArg, 0, api.ErrArg},
		"above that goes beyond":    {[]Out{{most, mine}, {most + 1, mine}}, 0, api.ErrArg, 0, api.ErrArg},
		"other's beyond, own above": {[]Out{{most, other}, {1, other}, {most + 1, mine}}, 0, api.ErrArg, 0, api.ErrOver},
		"other's above, own beyond": {[]Out{{most + 1, other}, {most, mine}, {1, mine}}, 0, api.ErrOver, 0, api.ErrArg},
		"own beyond with other's":   {[]Out{{most - 5, mine}, {most - 5, other}, {5, mine}}, most, api.OK, 0, api.ErrOver},
	} {
		x := Tx{Ins: ins(1), Outs: c.outs}
		mustPay(t, what, x, at(1), c.paid, c.paidFault)
		mustPay(t, what, x, at(3), 0, api.OK)
		mustTotal(t, what, x, c.total, c.totalFaults)
	}
}

func TestTags(t *testing.T) {
	long := string(row(1, 40))
	x := Tx{Outs: []Out{
		{Pays: 1, Lock: toTag("b")},
		{Pays: 2, Lock: toAddress(at(1))},
		{Pays: most + 1, Lock: toTag("a")}, // what it pays is no matter
		{Pays: 3, Lock: nil},
		{Pays: 4, Lock: toTag("")},
		{Pays: 5, Lock: toTag(string(row(1, 41)))},
		{Pays: 6, Lock: []byte{106, 2, 'h'}},
		{Pays: 7, Lock: []byte{106, 1, 'h', 'i'}},
		{Pays: 8, Lock: toTag(long)},
		{Pays: 9, Lock: []byte("a")},
		{Pays: 10, Lock: toTag("b")},
		{Pays: 11, Lock: toTag(string(toTag("c")))},
		{Pays: 12, Lock: row(106, 520)},
		{Pays: 13, Lock: append(toTag("d"), make([]byte, 520)...)},
	}}
	want := []string{"b", "a", long, "b", string(toTag("c"))}
	if got := gone(x.Tags()); !slices.Equal(got, want) {
		t.Errorf("%q, want %q", got, want)
	}
	for _, locked := range [][]byte{nil, {}, toAddress(at(1)), []byte("hi"), toTag(""), keyOf(at(1))} {
		if got := gone(Tx{Ins: ins(1), Outs: []Out{{Pays: 1, Lock: locked}}}.Tags()); got != nil {
			t.Errorf("%x: %q", locked, got)
		}
	}
	for n := 1; n <= 40; n++ {
		tag := string(row(byte(n), n))
		if got := gone(Tx{Outs: []Out{{Lock: toTag(tag)}}}.Tags()); !slices.Equal(got, []string{tag}) {
			t.Errorf("%q: %q", tag, got)
		}
	}
	in := Tx{Ins: []In{{Key: toTag("key")}}, Outs: outs(1)}
	if got := gone(in.Tags()); got != nil {
		t.Errorf("a key's: %q", got)
	}
}

func TestTagsAreLeftEarly(t *testing.T) {
	x := Tx{Outs: []Out{{Lock: toTag("a")}, {Lock: toTag("b")}, {Lock: nil}, {Lock: toTag("c")}}}
	l := x.Tags()
	for n := 1; n <= 3; n++ {
		var seen []string
		for tag := range l {
			if seen = append(seen, string(tag)); len(seen) == n {
				break
			}
		}
		if !slices.Equal(seen, []string{"a", "b", "c"}[:n]) {
			t.Errorf("%d: %q", n, seen)
		}
	}
	calls := 0
	l(func([]byte) bool { calls++; return false })
	if calls != 1 {
		t.Error("told", calls, "after it was left")
	}
	if got := gone(l); !slices.Equal(got, []string{"a", "b", "c"}) {
		t.Errorf("after it was left: %q", got)
	}
}

func TestTagsAreGoneThroughTwice(t *testing.T) {
	x := Tx{Outs: []Out{{Lock: toTag("a")}, {Lock: toTag("b")}, {Lock: toTag("c")}}}
	want := []string{"a", "b", "c"}
	l, other := x.Tags(), x.Tags()
	for range 3 {
		if got := gone(l); !slices.Equal(got, want) {
			t.Errorf("%q", got)
		}
	}
	n := 0
	for tag := range l { // one within the other
		if got := gone(l); !slices.Equal(got, want) || string(tag) != want[n] {
			t.Errorf("%q: %q", tag, got)
		}
		n++
	}
	for tag := range l { // what is told is whoever's it was told to
		fill(tag)
	}
	if got := gone(l); n != 3 || !slices.Equal(got, want) {
		t.Errorf("after what was told was changed: %q", got)
	}
	if got := gone(other); !slices.Equal(got, want) {
		t.Errorf("another one: %q", got)
	}
	if got := gone(x.Tags()); !slices.Equal(got, want) {
		t.Errorf("a further one: %q", got)
	}
}

func TestSpends(t *testing.T) {
	x := Tx{Ins: []In{{Key: keyOf(at(1))}, {Key: []byte("no key")}, {Key: keyOf(at(2))}, {}, {Key: keyOf(at(1))}, {Key: keyOf(at(3))}}, Outs: outs(1)}
	for first := range 256 {
		a := at(byte(first))
		if got := x.Spends(a); got != (1 <= first && first <= 3) {
			t.Error(first, got)
		}
	}
	if x.Spends(lock.Address{}) {
		t.Error("the address of noughts spends by a key that is none")
	}
	if y := (Tx{Ins: []In{{Key: keyOf(lock.Address{})}}}); !y.Spends(lock.Address{}) || y.Spends(at(1)) {
		t.Error("the address of noughts doesn't spend by its key")
	}
	near := at(2)
	for i := range near {
		near[i] ^= 1
		if x.Spends(near) {
			t.Error("one byte off", near)
		}
		near[i] ^= 1
	}
	if !x.Spends(near) {
		t.Error(near)
	}
}

func TestSpendsByKeysThatAreNone(t *testing.T) {
	for _, key := range [][]byte{nil, {}, {20}, row(1, 20), row(20, 21)[1:], keyOf(at(1))[:20], append(keyOf(at(1)), 0), slices.Concat([]byte{21}, row(1, 20)),
		slices.Concat([]byte{19}, row(1, 20)), toAddress(at(1)), toTag(string(row(1, 20))), slices.Concat(keyOf(at(1)), keyOf(at(1))), make([]byte, 21), make([]byte, 520), make([]byte, 5000)} {
		for _, x := range []Tx{{Ins: []In{{Key: key}}}, {Ins: []In{{Key: key}, {Key: key}}, Outs: outs(1)}} {
			for _, a := range []lock.Address{at(1), {}, at(2)} {
				if x.Spends(a) {
					t.Errorf("%x: %v", key, a)
				}
			}
		}
		x := Tx{Ins: []In{{Key: key}, {Key: keyOf(at(1))}}}
		if !x.Spends(at(1)) || x.Spends(lock.Address{}) {
			t.Errorf("beside %x", key)
		}
	}
	if (Tx{Outs: []Out{{Lock: keyOf(at(1))}, {Lock: toAddress(at(1))}}, Ins: ins(1)}).Spends(at(1)) {
		t.Error("who is paid spends")
	}
	if (Tx{Ins: []In{{From: digest.Hash(append(keyOf(at(1)), make([]byte, 11)...))}}}).Spends(at(1)) {
		t.Error("a hash is a key")
	}
}

func TestSpendsByManyInputs(t *testing.T) {
	x := Tx{Ins: ins(1000)}
	x.Ins[999].Key = keyOf(at(4))
	if !x.Spends(at(4)) || x.Spends(at(5)) {
		t.Error("the last of many inputs")
	}
}

// P9.3

// drawnBytes answers some bytes, mostly few, at times locks and keys, at times at the ends of what may be.
func drawnBytes(rnd *rand.Rand) []byte {
	switch rnd.Intn(12) {
	case 0:
		return toAddress(at(byte(rnd.Intn(4))))
	case 1:
		return toTag(string(row(byte(rnd.Intn(4)), rnd.Intn(43))))
	case 2:
		return keyOf(at(byte(rnd.Intn(4))))
	case 3:
		return row(byte(rnd.Intn(256)), 250+rnd.Intn(8))
	case 4:
		return row(byte(rnd.Intn(256)), 518+rnd.Intn(4))
	case 5, 6:
		return nil
	}
	return row(byte(rnd.Intn(256)), rnd.Intn(9))
}

// drawnCount answers how many inputs or outputs, mostly few, at times none or about 64.
func drawnCount(rnd *rand.Rand) int {
	switch rnd.Intn(20) {
	case 0:
		return 0
	case 1:
		return 62 + rnd.Intn(5)
	}
	return 1 + rnd.Intn(4)
}

// drawnTx answers any transaction, most of them such as may be.
func drawnTx(rnd *rand.Rand) Tx {
	x := Tx{Version: rnd.Uint32() >> rnd.Intn(32), LockTime: rnd.Uint32() >> rnd.Intn(32)}
	for range drawnCount(rnd) {
		in := In{Index: rnd.Uint32() >> rnd.Intn(32), Key: drawnBytes(rnd), Sequence: rnd.Uint32() >> rnd.Intn(32)}
		rnd.Read(in.From[:])
		x.Ins = append(x.Ins, in)
	}
	for range drawnCount(rnd) {
		out := Out{Pays: money.Amount(rnd.Uint64() >> (2 + rnd.Intn(62))), Lock: drawnBytes(rnd)}
		if rnd.Intn(60) == 0 {
			out.Pays = money.Amount(rnd.Uint64())
		}
		x.Outs = append(x.Outs, out)
	}
	return x
}

func TestDrawnTransactions(t *testing.T) {
	rnd := rand.New(rand.NewSource(9))
	seen := map[api.Errno]int{}
	for i := range 20000 {
		x := drawnTx(rnd)
		_, _, e := laid(x)
		seen[e]++
		mustTell(t, fmt.Sprint("drawn ", i), x)
		for first := range 4 {
			want, fault := paid(x, at(byte(first)), false)
			mustPay(t, fmt.Sprint("drawn ", i), x, at(byte(first)), want, fault)
			spends := slices.ContainsFunc(x.Ins, func(in In) bool { return bytes.Equal(in.Key, keyOf(at(byte(first)))) })
			if x.Spends(at(byte(first))) != spends {
				t.Errorf("drawn %d: Spends isn't %v", i, spends)
			}
		}
		want, fault := paid(x, lock.Address{}, true)
		mustTotal(t, fmt.Sprint("drawn ", i), x, want, fault)
		if got, want := gone(x.Tags()), tagsOf(x); !slices.Equal(got, want) {
			t.Errorf("drawn %d: Tags: %q, want %q", i, got, want)
		}
		if t.Failed() {
			t.Fatalf("%+v", x)
		}
	}
	if seen[api.OK] < 5000 || seen[api.ErrFew] < 500 || seen[api.ErrLong] < 500 || seen[api.ErrOver] < 200 || len(seen) != 4 {
		t.Error("too few of a sort:", seen)
	}
}

// tagsOf answers what Tags is to tell.
func tagsOf(x Tx) []string {
	var all []string
	for _, out := range x.Outs {
		if n := len(out.Lock) - 2; 1 <= n && n <= 40 && bytes.HasPrefix(out.Lock, []byte{106, byte(n)}) {
			all = append(all, string(out.Lock[2:]))
		}
	}
	return all
}

// Bytes that are near a transaction's are one's, or none's: whichever they are, what Parse tells has just these bytes.
func TestDrawnBytes(t *testing.T) {
	rnd := rand.New(rand.NewSource(99))
	are, none := 0, 0
	for range 40000 {
		b, _, e := laid(drawnTx(rnd))
		if e == api.ErrFew || len(b) == 0 || len(b) > 5000 {
			continue
		}
		for range rnd.Intn(3) {
			i := rnd.Intn(len(b))
			if rnd.Intn(3) == 0 {
				i = min(i, []int{countAt, keyAt, outsAt, paysAt + 7, lockedAt}[rnd.Intn(5)])
			}
			c := []byte{0, 1, 2, 64, 65, 252, 253, 254, 255, byte(rnd.Intn(256))}[rnd.Intn(10)]
			switch rnd.Intn(5) {
			case 0:
				b = slices.Insert(b, i, c)
			case 1:
				b = slices.Delete(b, i, i+1)
			default:
				b[i] = c
			}
		}
		want, ok := told(b)
		x, e := Parse(b)
		if !ok {
			none++
			if e != api.ErrForm || !zero(x) {
				t.Fatalf("%x: %+v, %d", b, x, int(e))
			}
			continue
		}
		are++
		if e != api.OK || !same(x, want) {
			t.Fatalf("%x: %+v, %d, want %+v", b, x, int(e), want)
		}
		if again, e := x.Bytes(); e != api.OK || !bytes.Equal(again, b) {
			t.Fatalf("%x became %x, %d", b, again, int(e))
		}
	}
	if are < 5000 || none < 5000 {
		t.Error("too few of a sort:", are, none)
	}
}

// cutter cuts bytes off from the first on; it is short once there were too few, or a count that can't be.
type cutter struct {
	b     []byte
	short bool
}

func (c *cutter) cut(n int) []byte {
	if n > len(c.b) {
		c.short = true
		return make([]byte, n)
	}
	b := c.b[:n]
	c.b = c.b[n:]
	return b
}

func (c *cutter) word() uint32 { return binary.LittleEndian.Uint32(c.cut(4)) }

func (c *cutter) count(most int) int {
	n := int(c.cut(1)[0])
	if n > 253 {
		c.short = true
	}
	if n == 253 {
		if n = int(binary.LittleEndian.Uint16(c.cut(2))); n < 253 {
			c.short = true
		}
	}
	if n > most {
		c.short = true
	}
	if c.short {
		return 0
	}
	return n
}

// told answers what Parse is to answer; false: the bytes are none's.
func told(b []byte) (Tx, bool) {
	c := &cutter{b: b}
	x := Tx{Version: c.word()}
	for range c.count(64) {
		var in In
		copy(in.From[:], c.cut(32))
		in.Index = c.word()
		in.Key = c.cut(c.count(520))
		in.Sequence = c.word()
		x.Ins = append(x.Ins, in)
	}
	for range c.count(64) {
		pays := binary.LittleEndian.Uint64(c.cut(8))
		c.short = c.short || pays > most
		x.Outs = append(x.Outs, Out{Pays: money.Amount(pays), Lock: c.cut(c.count(520))})
	}
	x.LockTime = c.word()
	ok := !c.short && len(c.b) == 0 && len(x.Ins) > 0 && len(x.Outs) > 0 && len(b) != 64 && len(b) <= 4096
	return x, ok
}

// room answers bytes with spare room ahead and behind, and the whole of their memory.
func room(b []byte) (part, all []byte) {
	all = bytes.Repeat([]byte{filler}, len(b)+100)
	copy(all[50:], b)
	return all[50 : 50+len(b)], all
}

// fill overwrites bytes and their spare room.
func fill(b []byte) {
	b = b[:cap(b)]
	for i := range b {
		b[i] = filler
	}
}

// copied answers a transaction apart.
func copied(x Tx) Tx {
	x.Ins, x.Outs = slices.Clone(x.Ins), slices.Clone(x.Outs)
	for i := range x.Ins {
		x.Ins[i].Key = bytes.Clone(x.Ins[i].Key)
	}
	for i := range x.Outs {
		x.Outs[i].Lock = bytes.Clone(x.Outs[i].Lock)
	}
	return x
}

// ruin overwrites all that a transaction's lists hold.
func ruin(x Tx) {
	for i := range x.Ins {
		fill(x.Ins[i].Key)
	}
	for i := range x.Outs {
		fill(x.Outs[i].Lock)
	}
	ins, outs := x.Ins[:cap(x.Ins)], x.Outs[:cap(x.Outs)]
	for i := range ins {
		ins[i] = In{Index: 77, Key: []byte("ruined")}
	}
	for i := range outs {
		outs[i] = Out{Pays: 77, Lock: toTag("ruined")}
	}
}

// examples are transactions that may be, and such that may not.
func examples(t *testing.T) []Tx {
	known, _, _ := first(t)
	return []Tx{{}, known, mixed(), plain(nil, nil), plain([]byte{}, []byte{}), sized(t, 64), sized(t, 4096), sized(t, 4097),
		{Ins: ins(64), Outs: outs(64)}, {Ins: ins(65), Outs: outs(1)}, {Ins: ins(1)}, plain(row(1, 521), toTag("hi")),
		{Ins: ins(1), Outs: []Out{{Pays: most + 1, Lock: toTag("hi")}, {Pays: 5, Lock: toAddress(at(1))}}}}
}

func TestNothingHandedInIsChanged(t *testing.T) {
	for _, x := range examples(t) {
		want := copied(x)
		var all, before [][]byte
		lay := func(b []byte) []byte {
			part, whole := room(b)
			all, before = append(all, whole), append(before, slices.Clone(whole))
			return part
		}
		ins, outs := make([]In, len(x.Ins), len(x.Ins)+3), make([]Out, len(x.Outs), len(x.Outs)+3)
		for i, in := range x.Ins {
			in.Key = lay(in.Key)
			ins[i] = in
		}
		for i, out := range x.Outs {
			out.Lock = lay(out.Lock)
			outs[i] = out
		}
		x.Ins, x.Outs = ins, outs
		b, _ := x.Bytes()
		x.Hash()
		x.Paid(at(1))
		x.Total()
		gone(x.Tags())
		x.Spends(at(7))
		Parse(lay(b))
		Parse(lay(b[:len(b)/2]))
		Parse(lay(make([]byte, 64)))
		if !same(x, want) {
			t.Errorf("%+v became %+v", want, x)
		}
		for i := range all {
			if !bytes.Equal(all[i], before[i]) {
				t.Errorf("%x became %x", before[i], all[i])
			}
		}
		spareIns, spareOuts := ins[len(ins):cap(ins)], outs[len(outs):cap(outs)]
		for i := range 3 {
			if in, out := spareIns[i], spareOuts[i]; in.Key != nil || in.Index != 0 || out.Lock != nil || out.Pays != 0 {
				t.Error("spare room of a list was written to")
			}
		}
	}
}

func TestNothingHandedInIsKept(t *testing.T) {
	for _, x := range examples(t) {
		whole := copied(x)
		b, e := x.Bytes()
		wasBytes := bytes.Clone(b)
		l := x.Tags()
		gone(x.Tags())
		ruin(x)
		if !bytes.Equal(b, wasBytes) {
			t.Errorf("changed in the transaction, its bytes became %x", b)
		}
		if got := gone(l); !slices.Equal(got, tagsOf(whole)) {
			t.Errorf("changed in the transaction, its tags became %q, not %q", got, tagsOf(whole))
		}
		if e != api.OK {
			continue
		}
		y, e := Parse(b)
		fill(b)
		if e != api.OK || !same(y, whole) {
			t.Errorf("changed in the bytes, the transaction became %+v, %d", y, int(e))
		}
	}
	x := mixed()
	x.Bytes()
	x.Outs[0].Pays, x.Ins[0].Key[1] = 6, 99 // a call answers what is there when it is made
	mustTell(t, "changed", x)
	if got, _ := x.Paid(at(9)); got != 6 || x.Spends(at(7)) {
		t.Error(got, x.Spends(at(7)))
	}
}

func TestAnswersShareNoMemory(t *testing.T) {
	for _, x := range examples(t) {
		whole := copied(x)
		one, e := x.Bytes()
		if e != api.OK {
			continue
		}
		other := mustBytes(t, x)
		want := bytes.Clone(one)
		fill(one)
		if !bytes.Equal(other, want) || !same(x, whole) || !bytes.Equal(mustBytes(t, x), want) {
			t.Errorf("bytes share memory: %+v", x)
		}
		y, _ := Parse(other)
		z, _ := Parse(other)
		ruin(y)
		if !same(z, whole) || !bytes.Equal(other, want) {
			t.Errorf("transactions share memory: %+v", z)
		}
	}
}

// Two lists of one answer share none either.
func TestListsOfOneAnswerShareNoMemory(t *testing.T) {
	x := Tx{Ins: ins(5), Outs: outs(5)}
	for i := range 5 {
		x.Ins[i].Key = row(byte(i), 10)
		x.Outs[i].Lock = toTag(string(row(byte(i+9), 10)))
	}
	for changed := range 5 {
		y := mustParse(t, "five of both", mustBytes(t, x))
		fill(y.Ins[changed].Key)
		fill(y.Outs[changed].Lock)
		for i := range 5 {
			if i != changed && (!bytes.Equal(y.Ins[i].Key, x.Ins[i].Key) || !bytes.Equal(y.Outs[i].Lock, x.Outs[i].Lock)) {
				t.Errorf("%d was changed, and %d became %+v, %+v", changed, i, y.Ins[i], y.Outs[i])
			}
		}
		var tags [][]byte
		for tag := range x.Tags() {
			tags = append(tags, tag)
		}
		fill(tags[changed])
		for i := range 5 {
			if i != changed && !bytes.Equal(tags[i], row(byte(i+9), 10)) {
				t.Errorf("%d was changed, and %d became %x", changed, i, tags[i])
			}
			if !bytes.Equal(x.Outs[i].Lock[2:], row(byte(i+9), 10)) {
				t.Error("a tag is the lock's own")
			}
		}
	}
}

func TestHashTakesEveryByte(t *testing.T) {
	b := mustBytes(t, mixed())
	plainly, _ := mixed().Hash()
	seen := 0
	for i := range b {
		b[i] ^= 1
		if x, e := Parse(b); e == api.OK {
			seen++
			if h, e := x.Hash(); e != api.OK || h == plainly || h != doubled(b) {
				t.Errorf("byte %d: %x, %d", i, [32]byte(h), int(e))
			}
		}
		b[i] ^= 1
	}
	if seen < 100 {
		t.Error("too few:", seen)
	}
}

func TestAnswersHangOnArgumentsAlone(t *testing.T) {
	all := examples(t)
	for _, x := range all {
		b, e := x.Bytes()
		h, _ := x.Hash()
		y, f := Parse(b)
		sum, _ := x.Total()
		for _, between := range all {
			c, _ := between.Bytes()
			Parse(c)
			between.Total()
			between.Paid(at(1))
			gone(between.Tags())
		}
		again, e2 := x.Bytes()
		h2, _ := x.Hash()
		y2, f2 := Parse(b)
		sum2, _ := x.Total()
		if e != e2 || !bytes.Equal(b, again) || h != h2 || f != f2 || !same(y, y2) || sum != sum2 {
			t.Errorf("%+v: answers differ", x)
		}
	}
}
