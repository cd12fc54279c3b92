package header

import (
	"bytes"
	"crypto/sha256"
	"encoding/binary"
	"encoding/hex"
	"math"
	"math/big"
	"math/rand"
	"slices"
	"testing"

	"pontage/api"
	"pontage/digest"
	"pontage/wide"
)

const (
	full  = math.MaxUint64
	last  = math.MaxUint32 // of all nonces
	half  = 0x207fffff     // bits whose target about half of all hashes meet
	rare  = 0x1f7fffff     // one of 512
	never = 0x01010000     // the target 1, which nothing known meets
)

// greatest is the limit 2^256 - 1.
func greatest() wide.Wide {
	return wide.Wide{full, full, full, full}
}

// bigPower answers 2^n, as the library has it.
func bigPower(n uint) *big.Int {
	return new(big.Int).Lsh(big.NewInt(1), n)
}

// bigOf answers a wide number as the library has it.
func bigOf(a wide.Wide) *big.Int {
	b := new(big.Int)
	for _, word := range slices.Backward(a[:]) {
		b.Lsh(b, 64)
		b.Or(b, new(big.Int).SetUint64(word))
	}
	return b
}

// wideOf answers a number of the library's that is below 2^256.
func wideOf(b *big.Int) wide.Wide {
	var a wide.Wide
	for i, word := range slices.Collect(slices.Chunk(b.FillBytes(make([]byte, 32)), 8)) {
		a[3-i] = binary.BigEndian.Uint64(word)
	}
	return a
}

// laid answers a header's 80 bytes, by the library.
func laid(h Header) []byte {
	b := binary.LittleEndian.AppendUint32(nil, h.Version)
	b = append(b, h.Ahead[:]...)
	b = append(b, h.Root[:]...)
	b = binary.LittleEndian.AppendUint32(b, h.Time)
	b = binary.LittleEndian.AppendUint32(b, h.Bits)
	return binary.LittleEndian.AppendUint32(b, h.Nonce)
}

// summed answers the double sum, by the library.
func summed(b []byte) digest.Hash {
	once := sha256.Sum256(b)
	return sha256.Sum256(once[:])
}

// told answers the target of bits, by the library: nil, if they tell none.
func told(bits uint32) *big.Int {
	m := bits & 0x7fffff
	t := new(big.Int).Lsh(big.NewInt(int64(m)), uint(8*(bits>>24)))
	t.Rsh(t, 24)
	if bits>>23&1 == 1 && m != 0 || t.Sign() == 0 || t.Cmp(bigPower(256)) >= 0 {
		return nil
	}
	return t
}

// does tells, by the library, of a header whose bits tell a target: does its hash meet it?
func does(h Header) bool {
	hash := summed(laid(h))
	slices.Reverse(hash[:])
	return new(big.Int).SetBytes(hash[:]).Cmp(told(h.Bits)) <= 0
}

// checked answers what Check is to answer, by the library.
func checked(h Header, limit wide.Wide) api.Errno {
	t := told(h.Bits)
	switch {
	case t == nil || t.Cmp(bigOf(limit)) > 0:
		return api.ErrTarget
	case !does(h):
		return api.ErrWork
	}
	return api.OK
}

// sought answers the header as it is but for its root, the first that is as asked.
func sought(t *testing.T, h Header, asked func(h Header) bool) Header {
	t.Helper()
	for i := range uint32(1 << 22) {
		binary.LittleEndian.PutUint32(h.Root[7:], i)
		if asked(h) {
			return h
		}
	}
	t.Fatalf("none is as asked beside %+v", h)
	return Header{}
}

// hashOf answers the hash of a text.
func hashOf(t *testing.T, s string) digest.Hash {
	t.Helper()
	h, e := digest.Parse(s)
	if e != api.OK {
		t.Fatal(s)
	}
	return h
}

// rising is a hash of unlike bytes, the first of which is as told.
func rising(first byte) digest.Hash {
	var h digest.Hash
	for i := range h {
		h[i] = first + byte(i)
	}
	return h
}

// whole is a header of unlike bytes in every field: 1 to 80.
func whole() Header {
	return Header{
		Version: 0x04030201,
		Ahead:   rising(5),
		Root:    rising(37),
		Time:    0x48474645,
		Bits:    0x4c4b4a49,
		Nonce:   0x504f4e4d,
	}
}

// drawn answers headers of any fields, some of them at an end.
func drawn(n int) []Header {
	rnd := rand.New(rand.NewSource(7))
	number := func() uint32 {
		return []uint32{0, 1, last, rnd.Uint32(), rnd.Uint32() >> rnd.Intn(32)}[rnd.Intn(5)]
	}
	hash := func() digest.Hash {
		var h digest.Hash
		if rnd.Intn(4) > 0 {
			rnd.Read(h[:])
		}
		return h
	}
	var all []Header
	for range n {
		all = append(all, Header{number(), hash(), hash(), number(), number(), number()})
	}
	return all
}

// known are headers of the chain, their bytes, and the texts of their hashes.
func known(t *testing.T) []struct {
	h           Header
	bytes, hash string
} {
	t.Helper()
	return []struct {
		h           Header
		bytes, hash string
	}{
		{ // the first one, of the chapter's example
			Header{1, digest.Hash{}, hashOf(t, "4a5e1e4baab89f3a32518a88c31bc87f618f76673e2cc77ab2127b7afdeda33b"), 1231006505, 0x1d00ffff, 2083236893},
			"01000000" + "0000000000000000000000000000000000000000000000000000000000000000" +
				"3ba3edfd7a7b12b27ac72c3e67768f617fc81bc3888a51323a9fb8aa4b1e5e4a" + "29ab5f49" + "ffff001d" + "1dac2b7c",
			"000000000019d6689c085ae165831e934ff763ae46a2a6c172b3f1b60a8ce26f",
		},
		{ // the one behind it
			Header{1, hashOf(t, "000000000019d6689c085ae165831e934ff763ae46a2a6c172b3f1b60a8ce26f"), hashOf(t, "0e3e2357e806b6cdb1f70b54c3a3a17b6714ee1f0e68bebb44a74b1efd512098"), 1231469665, 0x1d00ffff, 2573394689},
			"01000000" + "6fe28c0ab6f1b372c1a6a246ae63f74f931e8365e15a089c68d6190000000000" +
				"982051fd1e4ba744bbbe680e1fee14677ba1a3c3540bf7b1cdb606e857233e0e" + "61bc6649" + "ffff001d" + "01e36299",
			"00000000839a8e6886ab5951d76f411475428afc90947ee320161bbf18eb6048",
		},
		{ // a later one
			Header{1, hashOf(t, "00000000000008a3a41b85b8b29ad444def299fee21793cd8b9e567eab02cd81"), hashOf(t, "2b12fcf1b09288fcaff797d71e950e71ae42b91e8bdb2304758dfcffc2b620e3"), 1305998791, 0x1a44b9f2, 2504433986},
			"01000000" + "81cd02ab7e569e8bcd9317e2fe99f2de44d49ab2b8851ba4a308000000000000" +
				"e320b6c2fffc8d750423db8b1eb942ae710e951ed797f7affc8892b0f1fc122b" + "c7f5d74d" + "f2b9441a" + "42a14695",
			"00000000000000001e8d6829a8a21adc5d38d0a473b144b6765798e61f98bd1d",
		},
	}
}

// field is a header with one field that isn't 0, where that stands, and its bytes there.
type field struct {
	h    Header
	at   int
	want []byte
}

// numberFields are the headers with that number in one field, of these bytes.
func numberFields(x uint32, want ...byte) []field {
	return []field{
		{Header{Version: x}, 0, want},
		{Header{Time: x}, 68, want},
		{Header{Bits: x}, 72, want},
		{Header{Nonce: x}, 76, want},
	}
}

// hashFields are the headers with that hash in one field.
func hashFields(h digest.Hash) []field {
	return []field{
		{Header{Ahead: h}, 4, h[:]},
		{Header{Root: h}, 36, h[:]},
	}
}

// fields are headers with each field by itself at 0, 1 and its greatest, with unlike bytes, and with each byte by itself.
func fields() []field {
	all := slices.Concat(
		numberFields(0, 0, 0, 0, 0),
		numberFields(1, 1, 0, 0, 0),
		numberFields(0x80000000, 0, 0, 0, 128),
		numberFields(0x01020304, 4, 3, 2, 1),
		numberFields(0xfffefdfc, 252, 253, 254, 255),
		numberFields(last, 255, 255, 255, 255),
		hashFields(digest.Hash{}),
		hashFields(digest.Hash{0: 1}),
		hashFields(digest.Hash{31: 1}),
		hashFields(rising(1)),
		hashFields(rising(200)),
		hashFields(digest.Hash(bytes.Repeat([]byte{255}, 32))),
	)
	for i := range 4 {
		var want [4]byte
		want[i] = 0xa5
		all = append(all, numberFields(0xa5<<(8*i), want[:]...)...)
	}
	for i := range 32 {
		var h digest.Hash
		h[i] = 0x5a
		all = append(all, hashFields(h)...)
	}
	return all
}

// bytes answers the 80 bytes that a field by itself makes.
func (f field) bytes() []byte {
	b := make([]byte, 80)
	copy(b[f.at:], f.want)
	return b
}

// P7.1

// mustBytes checks an answer of Bytes.
func mustBytes(t *testing.T, h Header, want []byte) {
	t.Helper()
	if got := h.Bytes(); !bytes.Equal(got, want) {
		t.Errorf("Bytes of %+v: %x, want %x", h, got, want)
	}
}

// mustParse checks an answer of Parse: a header and api.OK, or an error beside a header of noughts.
func mustParse(t *testing.T, b []byte, want Header, wanted api.Errno) {
	t.Helper()
	if got, e := Parse(b); got != want || e != wanted {
		t.Errorf("Parse of %x: %+v, %d; want %+v, %d", b, got, int(e), want, int(wanted))
	}
}

func TestBytesOfKnownHeaders(t *testing.T) {
	for _, c := range known(t) {
		want, err := hex.DecodeString(c.bytes)
		if err != nil {
			t.Fatal(err)
		}
		mustBytes(t, c.h, want)
		mustParse(t, want, c.h, api.OK)
	}
}

func TestBytesOfEachFieldByItself(t *testing.T) {
	for _, f := range fields() {
		mustBytes(t, f.h, f.bytes())
	}
}

func TestParseOfEachFieldByItself(t *testing.T) {
	for _, f := range fields() {
		mustParse(t, f.bytes(), f.h, api.OK)
	}
}

func TestAllFieldsStandOneBehindTheOther(t *testing.T) {
	var want []byte
	for i := range byte(80) {
		want = append(want, i+1)
	}
	mustBytes(t, whole(), want)
	mustParse(t, want, whole(), api.OK)
	mustBytes(t, Header{}, make([]byte, 80))
	mustParse(t, make([]byte, 80), Header{}, api.OK)
	most := Header{last, digest.Hash(bytes.Repeat([]byte{255}, 32)), digest.Hash(bytes.Repeat([]byte{255}, 32)), last, last, last}
	mustBytes(t, most, bytes.Repeat([]byte{255}, 80))
	mustParse(t, bytes.Repeat([]byte{255}, 80), most, api.OK)
}

func TestBytesIsTheLibrarys(t *testing.T) {
	for _, h := range drawn(2000) {
		mustBytes(t, h, laid(h))
		mustParse(t, laid(h), h, api.OK)
	}
}

func TestParseOfOtherSizes(t *testing.T) {
	mustParse(t, nil, Header{}, api.ErrForm)
	mustParse(t, []byte{}, Header{}, api.ErrForm)
	right := laid(whole())
	for n := range 400 {
		if n == 80 {
			continue
		}
		headers := bytes.Repeat(right, 5)[:n] // so that 80 of its bytes, the first or the last, would be a header
		mustParse(t, headers, Header{}, api.ErrForm)
		mustParse(t, slices.Clip(headers), Header{}, api.ErrForm)
		mustParse(t, make([]byte, n), Header{}, api.ErrForm)
		mustParse(t, bytes.Repeat([]byte{255}, n), Header{}, api.ErrForm)
	}
	for _, n := range []int{1 << 8, 1<<8 + 80, 1 << 16, 1<<16 + 80, 1 << 20} {
		mustParse(t, make([]byte, n), Header{}, api.ErrForm)
	}
	mustParse(t, right[:79:79], Header{}, api.ErrForm)
	mustParse(t, right[1:], Header{}, api.ErrForm)
	mustParse(t, right, whole(), api.OK)
}

// mustHash checks an answer of Hash.
func mustHash(t *testing.T, h Header, want digest.Hash) {
	t.Helper()
	if got := h.Hash(); got != want {
		t.Errorf("Hash of %+v: %s, want %s", h, got.Text(), want.Text())
	}
}

func TestHashOfKnownHeaders(t *testing.T) {
	for _, c := range known(t) {
		mustHash(t, c.h, hashOf(t, c.hash))
	}
}

func TestHashIsTheLibrarys(t *testing.T) {
	mustHash(t, Header{}, summed(make([]byte, 80)))
	for _, f := range fields() {
		mustHash(t, f.h, summed(f.bytes()))
	}
	for _, h := range drawn(2000) {
		mustHash(t, h, summed(laid(h)))
	}
}

func TestHashTakesEveryBit(t *testing.T) {
	plain := whole().Hash()
	for i := range 640 {
		b := laid(whole())
		b[i/8] ^= 1 << (i % 8)
		h, _ := Parse(b)
		if h.Hash() == plain {
			t.Errorf("the hash hangs not on bit %d", i)
		}
	}
}

// mustCheck checks an answer of Check.
func mustCheck(t *testing.T, h Header, limit wide.Wide, want api.Errno) {
	t.Helper()
	if got := h.Check(limit); got != want {
		t.Errorf("Check of %+v by %#x: %d, want %d", h, limit, int(got), int(want))
	}
}

func TestCheckOfKnownHeaders(t *testing.T) {
	limit := wide.Wide{0, 0, 0, 0xffff0000} // the chain's
	for _, c := range known(t) {
		mustCheck(t, c.h, limit, api.OK)
		mustCheck(t, c.h, greatest(), api.OK)
		c.h.Nonce++
		mustCheck(t, c.h, limit, api.ErrWork)
		c.h.Nonce -= 2
		mustCheck(t, c.h, limit, api.ErrWork)
	}
}

// meeting and missing are headers with those bits: one whose hash meets the target, and one whose hash doesn't.
func meeting(t *testing.T, bits uint32) Header {
	return sought(t, Header{Version: 3, Ahead: rising(9), Time: 17, Bits: bits, Nonce: 5}, does)
}

func missing(t *testing.T, bits uint32) Header {
	return sought(t, Header{Version: 3, Ahead: rising(9), Time: 17, Bits: bits, Nonce: 5}, func(h Header) bool { return !does(h) })
}

func TestCheckAroundTheLimit(t *testing.T) {
	one := wide.Of(1)
	for _, bits := range []uint32{half, rare, 0x1f00ffff, 0x20000fff, 0x21008000, 0x2100ff00, 0x22000080, 0x220000ff} {
		does, doesnt := meeting(t, bits), missing(t, bits)
		just := wideOf(told(bits))
		above, _ := just.Add(one)
		below, _ := just.Sub(one)
		for _, limit := range []wide.Wide{just, above, greatest()} {
			mustCheck(t, does, limit, api.OK)
			mustCheck(t, doesnt, limit, api.ErrWork)
		}
		for _, limit := range []wide.Wide{below, {}, one, {full, full, full}} {
			mustCheck(t, does, limit, api.ErrTarget)
			mustCheck(t, doesnt, limit, api.ErrTarget) // both: the first of them
		}
	}
}

// The limit is held against the target by every word, the highest first.
func TestCheckHoldsTheWholeLimitAgainstTheTarget(t *testing.T) {
	just := wide.Wide{0, 0, 0, 0xffff0000}
	first := known(t)[0].h
	for i := range just {
		more := just
		more[i]++
		mustCheck(t, first, more, api.OK)
	}
	for _, limit := range []wide.Wide{{full, full, full, 0xfffeffff}, {0, 0, 0, 0xfffeffff}, {0xffff0000}, {0, 0xffff0000}, {0, 0, 0xffff0000}, {full, full, full}} {
		mustCheck(t, first, limit, api.ErrTarget)
	}
	mustCheck(t, first, wide.Wide{full, full, full, 0xffff0000}, api.OK)
	mustCheck(t, first, wide.Wide{0, 0, 0, 0xffff0001}, api.OK)
	mustCheck(t, first, wide.Wide{0, 0, 0, 1 << 63}, api.OK)
	tiny := Header{Bits: never}
	mustCheck(t, tiny, wide.Of(1), api.ErrWork)
	mustCheck(t, tiny, greatest(), api.ErrWork)
	mustCheck(t, tiny, wide.Wide{}, api.ErrTarget)
}

// targetless are bits that tell no target: 0, by their mantissa or rounded down; with the sign; 2^256 and above.
func targetless() []uint32 {
	return []uint32{
		0, 1, 0x7fffff, 0x01000000, 0x0100ffff, 0x020000ff, 0x03000000, 0x20000000, 0xff000000,
		0x00800000, 0x01ffffff, 0x1d80ffff, 0x20800000, 0x20800001, 0x20ffffff,
		0x21010000, 0x217fffff, 0x22000100, 0x227fffff, 0x23000001, 0x23000100, 0x24000001, 0x43000001, 0xff7fffff, 0xffffffff,
	}
}

func TestCheckOfBitsThatTellNoTarget(t *testing.T) {
	for _, bits := range targetless() {
		if told(bits) != nil {
			t.Fatalf("%#08x tell a target", bits)
		}
		small := sought(t, Header{Bits: bits}, func(h Header) bool { return summed(laid(h))[31] == 0 })
		great := sought(t, Header{Bits: bits}, func(h Header) bool { return summed(laid(h))[31] == 255 })
		for _, limit := range []wide.Wide{{}, wide.Of(1), {0, 0, 0, 0xffff0000}, greatest()} {
			mustCheck(t, small, limit, api.ErrTarget)
			mustCheck(t, great, limit, api.ErrTarget)
		}
	}
}

// Of these hashes the highest bytes are the target's, or one less.
func TestCheckOfAHashJustAboveTheTarget(t *testing.T) {
	for _, c := range []struct {
		bits     uint32
		top      [2]byte // of the hash: its last bytes, the highest first
		bytes    int     // so many of them are asked for
		wanted   api.Errno
		noughted bool // is the hash's first byte, the lowest, 0?
	}{
		{0x22000080, [2]byte{0x80}, 1, api.ErrWork, false},
		{0x22000080, [2]byte{0x7f}, 1, api.OK, false},
		{0x22000080, [2]byte{0xff}, 1, api.ErrWork, true}, // it would be below, were it turned round
		{0x20010000, [2]byte{0x01}, 1, api.ErrWork, false},
		{0x20010000, [2]byte{0x00}, 1, api.OK, false},
		{0x21008000, [2]byte{0x80, 0x00}, 2, api.ErrWork, false},
		{0x21008000, [2]byte{0x7f, 0xff}, 2, api.OK, false},
		{0x2100ffff, [2]byte{0xff, 0xff}, 2, api.ErrWork, false},
		{0x2100ffff, [2]byte{0xff, 0xfe}, 2, api.OK, false},
	} {
		h := sought(t, Header{Version: 2, Bits: c.bits}, func(h Header) bool {
			hash := summed(laid(h))
			top := [2]byte{hash[31], hash[30]}
			return bytes.Equal(top[:c.bytes], c.top[:c.bytes]) && (!c.noughted || hash[0] == 0)
		})
		mustCheck(t, h, greatest(), c.wanted)
	}
}

func TestCheckIsTheLibrarys(t *testing.T) {
	rnd := rand.New(rand.NewSource(70))
	answered := map[api.Errno]int{}
	for _, h := range drawn(6000) {
		if rnd.Intn(4) > 0 {
			h.Bits = uint32(0x20+rnd.Intn(3))<<24 | rnd.Uint32()>>(9+8*rnd.Intn(3))
		}
		limit := wide.Wide{rnd.Uint64(), rnd.Uint64(), rnd.Uint64(), rnd.Uint64() >> rnd.Intn(4)}
		want := checked(h, limit)
		answered[want]++
		mustCheck(t, h, limit, want)
		mustCheck(t, h, greatest(), checked(h, greatest()))
		mustCheck(t, h, wide.Wide{}, api.ErrTarget)
	}
	for _, e := range []api.Errno{api.OK, api.ErrTarget, api.ErrWork} {
		if answered[e] < 100 {
			t.Errorf("%d was to be answered only %d times", int(e), answered[e])
		}
	}
}

func TestNoOtherBitsOfAHeaderCheck(t *testing.T) {
	for i := range 640 {
		b := laid(known(t)[0].h)
		b[i/8] ^= 1 << (i % 8)
		h, _ := Parse(b)
		if e := h.Check(greatest()); e == api.OK || e != checked(h, greatest()) {
			t.Errorf("with bit %d turned: %d", i, int(e))
		}
	}
}

// mustMine checks an answer of Mine: the header with that nonce.
func mustMine(t *testing.T, h Header, most, nonce uint32) {
	t.Helper()
	want := h
	want.Nonce = nonce
	if got, ok := Mine(h, most); got != want || !ok {
		t.Errorf("Mine of %+v, most %d: %+v, %t; want the nonce %d", h, most, got, ok, nonce)
	}
}

// mustNotMine checks an answer of Mine: none, and a header of noughts.
func mustNotMine(t *testing.T, h Header, most uint32) {
	t.Helper()
	if got, ok := Mine(h, most); got != (Header{}) || ok {
		t.Errorf("Mine of %+v, most %d: %+v, %t; want none", h, most, got, ok)
	}
}

// from answers a header with these bits that first does it after just so many further nonces, from that nonce on, which may go round.
func from(t *testing.T, bits, nonce, further uint32) Header {
	t.Helper()
	start := Header{Version: 1, Ahead: rising(3), Time: 99, Bits: bits, Nonce: nonce}
	return sought(t, start, func(h Header) bool {
		for range further {
			if does(h) {
				return false
			}
			h.Nonce++
		}
		return does(h)
	})
}

// starts are the nonces to mine from: the first and last ones, and those ahead of a byte's end.
func starts() []uint32 {
	return []uint32{0, 1, 2, 250, 65530, 1<<24 - 3, 1<<31 - 2, 1 << 31, last - 8, last - 3, last - 2, last - 1, last}
}

func TestMineTellsTheFirstNonce(t *testing.T) {
	for _, nonce := range starts() {
		for _, further := range []uint32{0, 1, 2, 3, 8} {
			if further > last-nonce {
				continue
			}
			h := from(t, half, nonce, further)
			for _, most := range []uint32{further, further + 1, further + 2, 100, 1 << 31, last - nonce, last - 1, last} {
				if most >= further {
					mustMine(t, h, most, nonce+further)
				}
			}
			for most := range further {
				mustNotMine(t, h, most)
			}
		}
	}
}

// Behind 2^32 - 1 there is no nonce: it doesn't go round to 0.
func TestMineEndsAtTheLastNonce(t *testing.T) {
	for _, nonce := range []uint32{last - 8, last - 3, last - 2, last - 1, last} {
		left := last - nonce
		for _, beyond := range []uint32{1, 2} { // the nonces 0 and 1 would do it
			h := from(t, half, nonce, left+beyond)
			for _, most := range []uint32{0, 1, 2, 3, left, left + 1, left + 2, left + 3, 100, 1 << 31, last - 2, last - 1, last} {
				mustNotMine(t, h, most)
			}
		}
	}
	mustNotMine(t, Header{Bits: never, Nonce: last - 5000}, last)
	mustNotMine(t, Header{Bits: never, Nonce: last - 5000}, 5000)
	mustNotMine(t, Header{Bits: never, Nonce: last}, last)
}

func TestMineTriesJustSoManyFurtherNonces(t *testing.T) {
	for _, nonce := range []uint32{0, 1, 1<<16 - 300, last - 20000} {
		h := Header{Version: 4, Root: rising(1), Time: 5, Bits: rare, Nonce: nonce}
		found, further := h, uint32(0)
		for !does(found) {
			found.Nonce++
			further++
		}
		if further < 2 {
			t.Fatalf("from %d on it is found at once", nonce)
		}
		mustMine(t, h, further, found.Nonce)
		mustMine(t, h, further+1, found.Nonce)
		mustMine(t, h, last, found.Nonce)
		mustNotMine(t, h, further-1)
		mustNotMine(t, h, further/2)
		mustNotMine(t, h, 0)
		mustMine(t, found, 0, found.Nonce)
		mustMine(t, found, last, found.Nonce)
	}
}

func TestMineOfKnownHeaders(t *testing.T) {
	for _, c := range known(t) {
		mustMine(t, c.h, 0, c.h.Nonce)
		mustMine(t, c.h, last, c.h.Nonce)
		ahead := c.h
		ahead.Nonce -= 500
		mustMine(t, ahead, 500, c.h.Nonce)
		mustMine(t, ahead, last, c.h.Nonce)
		mustNotMine(t, ahead, 499)
		c.h.Nonce++
		mustNotMine(t, c.h, 500)
	}
}

func TestMineOfBitsThatTellNoTarget(t *testing.T) {
	for _, bits := range targetless() {
		for _, nonce := range []uint32{0, 1, last - 1, last} {
			for _, most := range []uint32{0, 1, 100, last} { // not even a nonce is tried: that would take long
				mustNotMine(t, Header{Bits: bits, Nonce: nonce}, most)
				h := whole()
				h.Bits, h.Nonce = bits, nonce
				mustNotMine(t, h, most)
			}
		}
	}
}

// The highest targets are met by nearly all hashes, the lowest by none.
func TestMineOfTheGreatestAndTheLeastTarget(t *testing.T) {
	for _, nonce := range starts() {
		h := from(t, 0x2100ffff, nonce, 0)
		mustMine(t, h, 0, nonce)
		mustMine(t, h, last, nonce)
		h.Bits = never
		mustNotMine(t, h, 0)
		mustNotMine(t, h, 200)
	}
}

// Mining looks at the bits' target alone, at no limit and no other field.
func TestMineIsTheLibrarys(t *testing.T) {
	rnd := rand.New(rand.NewSource(71))
	found := 0
	for _, h := range drawn(1500) {
		if rnd.Intn(8) > 0 {
			h.Bits = 0x20000000 + rnd.Uint32()>>(9+rnd.Intn(5))
		}
		most := rnd.Uint32() >> (24 + rnd.Intn(8))
		want, ok := mined(h, most)
		if got, is := Mine(h, most); got != want || is != ok {
			t.Errorf("Mine of %+v, most %d: %+v, %t; want %+v, %t", h, most, got, is, want, ok)
		}
		if ok {
			found++
		}
	}
	if found < 500 {
		t.Errorf("only %d were found", found)
	}
}

// mined answers what Mine is to answer, by the library.
func mined(h Header, most uint32) (Header, bool) {
	if told(h.Bits) == nil {
		return Header{}, false
	}
	for nonce := uint64(h.Nonce); nonce <= min(uint64(h.Nonce)+uint64(most), last); nonce++ {
		next := h
		next.Nonce = uint32(nonce)
		if does(next) {
			return next, true
		}
	}
	return Header{}, false
}

// P7.2

func TestParseUndoesBytes(t *testing.T) {
	all := append(drawn(1000), Header{}, whole())
	for _, f := range fields() {
		all = append(all, f.h)
	}
	for _, h := range all {
		mustParse(t, h.Bytes(), h, api.OK)
	}
}

func TestBytesOfWhatParseTellsAreTheBytes(t *testing.T) {
	rnd := rand.New(rand.NewSource(72))
	for range 1000 {
		b := make([]byte, 80)
		rnd.Read(b)
		h, e := Parse(b)
		if e != api.OK {
			t.Fatalf("Parse of %x: %d", b, int(e))
		}
		mustBytes(t, h, b)
	}
}

func TestWhatIsMinedChecks(t *testing.T) {
	found := 0
	for i, bits := range []uint32{half, rare, 0x20000fff, 0x200fffff, 0x21008000, 0x2100ffff, 0x220000ff, 0x22000001, 0x1f00ffff} {
		for _, nonce := range []uint32{0, 1, 1 << 31, last - 1<<18, last - 1, last} {
			h := Header{Version: uint32(i), Ahead: rising(byte(i)), Root: rising(77), Time: nonce, Bits: bits, Nonce: nonce}
			got, ok := Mine(h, last)
			if !ok {
				mustNotMine(t, h, last)
				continue
			}
			found++
			mustCheck(t, got, greatest(), api.OK)
			mustCheck(t, got, wideOf(told(bits)), api.OK)
			mustCheck(t, got, wide.Wide{}, api.ErrTarget) // but for the limit
			for ahead := h; ahead.Nonce != got.Nonce; ahead.Nonce++ {
				if ahead.Check(greatest()) != api.ErrWork {
					t.Fatalf("%+v does it ahead of %d", ahead, got.Nonce)
				}
			}
			again := got
			again.Nonce = h.Nonce
			if again != h {
				t.Errorf("%+v became %+v", h, got)
			}
		}
	}
	if found < 40 {
		t.Errorf("only %d were found", found)
	}
}

func TestNothingHandedInIsChangedOrKept(t *testing.T) {
	room := bytes.Repeat([]byte{0xee}, 240)
	for _, n := range []int{0, 1, 79, 80, 81, 160} {
		b := room[40 : 40+n]
		copy(b, laid(whole()))
		before := slices.Clone(room)
		h, e := Parse(b)
		if !bytes.Equal(room, before) {
			t.Errorf("Parse changed what it was handed, of %d bytes, or their spare room", n)
		}
		clear(room)
		if e == api.OK && h != whole() {
			t.Errorf("Parse keeps what it was handed, of %d bytes: %+v", n, h)
		}
		copy(room, before)
	}
	h, limit := from(t, half, 7, 2), greatest()
	before := h
	h.Bytes()
	h.Hash()
	h.Check(limit)
	Mine(h, 0)
	Mine(h, 1)
	Mine(h, last)
	if h != before || limit != greatest() {
		t.Errorf("%+v became %+v", before, h)
	}
}

func TestAnswersShareNoMemory(t *testing.T) {
	h := whole()
	one, other := h.Bytes(), h.Bytes()
	clear(one[:cap(one)])
	if !bytes.Equal(other, laid(h)) {
		t.Errorf("the answers of Bytes share memory: %x", other)
	}
	mustBytes(t, h, laid(h))
	if h != whole() {
		t.Errorf("the bytes are the header's own: %+v", h)
	}
	parsed, _ := Parse(other)
	parsed.Root[0]++
	parsed.Ahead[31]++
	if !bytes.Equal(other, laid(h)) {
		t.Errorf("the header's hashes are the bytes' own: %x", other)
	}
	found, _ := Mine(from(t, half, 7, 2), last)
	again := found
	found.Root[0]++
	found.Ahead[0]++
	if again == found {
		t.Error("two headers share their hashes")
	}
}

func TestAnswersHangOnArgumentsAlone(t *testing.T) {
	first := known(t)[0]
	late := from(t, half, 3, 4)
	for range 3 {
		mustBytes(t, whole(), laid(whole()))
		mustParse(t, laid(whole()), whole(), api.OK)
		mustParse(t, laid(whole())[:79], Header{}, api.ErrForm)
		mustHash(t, first.h, hashOf(t, first.hash))
		mustCheck(t, first.h, greatest(), api.OK)
		mustCheck(t, first.h, wide.Wide{}, api.ErrTarget)
		mustMine(t, late, 4, 7)
		mustNotMine(t, late, 3)
		mustNotMine(t, Header{}, last)
	}
}
