package adjust

import (
	"crypto/sha256"
	"encoding/binary"
	"math"
	"math/big"
	"math/rand"
	"slices"
	"testing"

	"pontage/api"
	"pontage/digest"
	"pontage/header"
	"pontage/wide"
)

const (
	half     = 0x207fffff // bits whose target about half of all hashes meet
	greatest = 0x2100ffff // bits of the greatest target that bits tell
	never    = 0x01010000 // the target 1, which nothing known meets
	last     = math.MaxUint32
)

// bigPower answers 2^n, as the library has it.
func bigPower(n uint) *big.Int {
	return new(big.Int).Lsh(big.NewInt(1), n)
}

// wideOf answers a number of the library's that is below 2^256.
func wideOf(b *big.Int) wide.Wide {
	var a wide.Wide
	for i, word := range slices.Collect(slices.Chunk(b.FillBytes(make([]byte, 32)), 8)) {
		a[3-i] = binary.BigEndian.Uint64(word)
	}
	return a
}

// told answers the target of bits, by the library: nil, if they tell none.
func told(bits uint32) *big.Int {
	m := bits & 0x7fffff
	t := new(big.Int).Lsh(big.NewInt(int64(m)), uint(8*(bits>>24)))
	t.Rsh(t, 24)
	if bits>>23&1 == 1 && m != 0 || t.Sign() == 0 || t.Cmp(bigPower(256)) >= 0 {
		return nil
	}
	return t
}

// mustTell answers the target of bits that tell one.
func mustTell(t *testing.T, bits uint32) *big.Int {
	t.Helper()
	b := told(bits)
	if b == nil {
		t.Fatalf("%#08x tells no target", bits)
	}
	return b
}

// written answers a target's bits, by the bytes that the library writes it with.
func written(a *big.Int) uint32 {
	b := a.Bytes() // the highest first
	size := uint32(len(b))
	b = append(b, 0, 0, 0)
	if b[0] >= 0x80 {
		return (size+1)<<24 | uint32(b[0])<<8 | uint32(b[1])
	}
	return size<<24 | uint32(b[0])<<16 | uint32(b[1])<<8 | uint32(b[2])
}

// does tells, by the library, of a header whose bits tell a target: does its hash meet it?
func does(h header.Header) bool {
	b := binary.LittleEndian.AppendUint32(nil, h.Version)
	b = append(b, h.Ahead[:]...)
	b = append(b, h.Root[:]...)
	for _, x := range []uint32{h.Time, h.Bits, h.Nonce} {
		b = binary.LittleEndian.AppendUint32(b, x)
	}
	once := sha256.Sum256(b)
	hash := sha256.Sum256(once[:])
	slices.Reverse(hash[:])
	return new(big.Int).SetBytes(hash[:]).Cmp(told(h.Bits)) <= 0
}

// mined answers a header that meets its bits, or, if it isn't to, one that doesn't.
func mined(t *testing.T, bits uint32, meets bool) header.Header {
	t.Helper()
	mustTell(t, bits)
	h := header.Header{Version: 1, Root: digest.Hash{5: 7}, Time: 1700000000, Bits: bits}
	for range 1 << 20 {
		if does(h) == meets {
			return h
		}
		h.Nonce++
	}
	t.Fatalf("no header with %#08x is as asked", bits)
	return header.Header{}
}

// chains are the rules of the chain itself.
func chains(t *testing.T) Rules {
	t.Helper()
	root, e := digest.Parse("4a5e1e4baab89f3a32518a88c31bc87f618f76673e2cc77ab2127b7afdeda33b")
	if e != api.OK {
		t.Fatal(e)
	}
	first := header.Header{Version: 1, Root: root, Time: 1231006505, Bits: 0x1d00ffff, Nonce: 2083236893}
	return Rules{Every: 2016, Span: 1209600, Limit: 0x1d00ffff, Confirm: 6, First: first}
}

// right are rules that may be.
func right(t *testing.T) Rules {
	t.Helper()
	return Rules{Every: 4, Span: 100, Limit: half, Confirm: 2, First: mined(t, half, true)}
}

// targetless are bits that tell no target: by their mantissa, rounded down, by the sign, or not below 2^256.
func targetless() []uint32 {
	return []uint32{
		0, 1, 0x7fffff, 0x01000000, 0x0100ffff, 0x020000ff, 0x03000000, 0x1d000000, 0xff000000,
		0x00800000, 0x01810000, 0x03800001, 0x1d80ffff, 0x20ffffff, 0x2180ffff,
		0x21010000, 0x217fffff, 0x22000100, 0x23000001, 0xff7fffff, 0xffffffff,
	}
}

// limits are bits that tell targets, from the least to the greatest, some of them with a greater exponent than they need.
func limits() []uint32 {
	return []uint32{
		never, 0x03000001, 0x017f0000, 0x02008000, 0x0200ffff, 0x03123456, 0x037fffff, 0x04008000, 0x09010000,
		0x1a44b9f2, 0x1b0404cb, 0x1c7fff80, 0x1d00ffff, 0x1e00000f, 0x1f7fffff, 0x20000001, half, 0x21008000,
		0x22000080, 0x220000ff, greatest,
	}
}

// spans are those that the chapter has its edges at, and some that a quarter isn't even of.
func spans() []uint32 {
	return []uint32{1, 2, 3, 4, 5, 6, 7, 8, 9, 10, 99, 100, 101, 4096, 1209600, 1 << 30, 1<<31 - 1, 1 << 31, 1<<31 + 1, last - 1, last}
}

// times are those that the chapter has its edges at, of a span.
func times(span uint32) []int64 {
	s := int64(span)
	all := []int64{math.MinInt64, math.MinInt64 + 1, -1 << 32, -s, -1, 0, 1, 2, math.MaxInt64 - 1, math.MaxInt64, 1 << 32, 1 << 34}
	for _, near := range []int64{s, s / 2, 2 * s, s / 4, 4 * s, s / 3, 3 * s} {
		all = append(all, near-1, near, near+1)
	}
	return all
}

// P11.1: Check

// mustCheck checks an answer of Check.
func mustCheck(t *testing.T, r Rules, wanted api.Errno) {
	t.Helper()
	if e := r.Check(); e != wanted {
		t.Errorf("Check of %+v: %d, want %d", r, int(e), int(wanted))
	}
}

func TestCheckOfTheChainsRules(t *testing.T) {
	mustCheck(t, chains(t), api.OK)
	mustCheck(t, right(t), api.OK)
	mustCheck(t, Rules{}, api.ErrArg)
}

func TestCheckOfEvery(t *testing.T) {
	for _, every := range []int{2, 3, 4, 100, 2015, 2016} {
		r := right(t)
		r.Every = every
		mustCheck(t, r, api.OK)
	}
	for _, every := range []int{1, 0, -1, -2, -2016, 2017, 4032, 1<<32 + 2, math.MinInt, math.MaxInt} {
		r := right(t)
		r.Every = every
		mustCheck(t, r, api.ErrArg)
	}
}

func TestCheckOfSpan(t *testing.T) {
	for _, span := range []uint32{1, 2, 3, 4, 5, 1209600, 1<<31 - 1, 1 << 31} {
		r := right(t)
		r.Span = span
		mustCheck(t, r, api.OK)
	}
	for _, span := range []uint32{0, 1<<31 + 1, 3 << 30, last - 1, last} {
		r := right(t)
		r.Span = span
		mustCheck(t, r, api.ErrArg)
	}
}

func TestCheckOfConfirm(t *testing.T) {
	for _, confirm := range []int{1, 2, 6, 99, 100} {
		r := right(t)
		r.Confirm = confirm
		mustCheck(t, r, api.OK)
	}
	for _, confirm := range []int{0, -1, -100, 101, 200, 1<<32 + 1, math.MinInt, math.MaxInt} {
		r := right(t)
		r.Confirm = confirm
		mustCheck(t, r, api.ErrArg)
	}
}

func TestCheckOfLimit(t *testing.T) {
	for _, limit := range []uint32{half, 0x21008000, 0x22000080, 0x220000ff, greatest} {
		r := right(t)
		r.Limit = limit // First's bits needn't be the limit's
		mustCheck(t, r, api.OK)
		r.First = mined(t, limit, true)
		mustCheck(t, r, api.OK)
	}
	for _, limit := range targetless() {
		r := right(t)
		r.Limit = limit
		mustCheck(t, r, api.ErrTarget)
		r.First = mined(t, half, false)
		mustCheck(t, r, api.ErrTarget)
		r.First.Bits = limit
		mustCheck(t, r, api.ErrTarget)
	}
	for _, limit := range limits() { // a First above the limit, and one at it that nothing was done for
		r := right(t)
		r.Limit = limit
		if told(limit).Cmp(told(half)) < 0 {
			mustCheck(t, r, api.ErrTarget)
		}
		if limit != half {
			r.First = mined(t, limit, false)
			mustCheck(t, r, api.ErrWork)
		}
	}
}

func TestCheckOfFirst(t *testing.T) {
	for _, c := range []struct {
		bits   uint32
		meets  bool
		wanted api.Errno
	}{
		{half, true, api.OK},
		{half, false, api.ErrWork},
		{0x207ffffe, true, api.OK}, // just below the limit
		{0x207ffffe, false, api.ErrWork},
		{0x1f7fffff, true, api.OK},
		{0x1f7fffff, false, api.ErrWork},
		{0x21000001, true, api.OK}, // with a greater exponent than it needs
		{0x21007fff, true, api.OK},
		{never, false, api.ErrWork},
		{0x21008000, true, api.ErrTarget}, // just above the limit
		{0x21008000, false, api.ErrTarget},
		{greatest, true, api.ErrTarget},
		{0x220000ff, false, api.ErrTarget},
	} {
		r := right(t)
		r.First = mined(t, c.bits, c.meets)
		mustCheck(t, r, c.wanted)
	}
	for _, bits := range targetless() {
		r := right(t)
		r.First.Bits = bits
		mustCheck(t, r, api.ErrTarget)
	}
	r := right(t)
	r.First = header.Header{}
	mustCheck(t, r, api.ErrTarget)
}

func TestCheckOfAFirstThatWasChanged(t *testing.T) {
	r := chains(t)
	r.First.Nonce++
	mustCheck(t, r, api.ErrWork)
	r = chains(t)
	r.First.Bits = 0x1d00fffe // not its own: with these it has no work
	mustCheck(t, r, api.ErrWork)
	r.First.Bits = 0x1d010000
	mustCheck(t, r, api.ErrTarget)
	r = chains(t)
	r.Limit = 0x1d00fffe
	mustCheck(t, r, api.ErrTarget)
	r.Limit = 0x1d010000
	mustCheck(t, r, api.OK)
	r = chains(t)
	r.First.Time++
	mustCheck(t, r, api.ErrWork)
	r.First.Bits = half
	mustCheck(t, r, api.ErrTarget)
}

// Of what can't be, ErrArg goes ahead of the limit, and the limit of First.
func TestCheckOfSeveralErrors(t *testing.T) {
	firsts := []header.Header{mined(t, half, true), mined(t, half, false), mined(t, greatest, true), mined(t, never, false), {Bits: last}}
	seen := map[api.Errno]int{}
	for _, every := range []int{math.MinInt, 0, 1, 2, 2016, 2017} {
		for _, span := range []uint32{0, 1, 1 << 31, 1<<31 + 1} {
			for _, confirm := range []int{-1, 0, 1, 100, 101} {
				for _, limit := range []uint32{0, 0x21010000, never, 0x1d00ffff, half, greatest} {
					for i, first := range firsts {
						r := Rules{Every: every, Span: span, Limit: limit, Confirm: confirm, First: first}
						wanted := checked(r)
						seen[wanted]++
						if e := r.Check(); e != wanted {
							t.Errorf("Check of %d, %d, %#08x, %d and First %d: %d, want %d", every, span, limit, confirm, i, int(e), int(wanted))
						}
					}
				}
			}
		}
	}
	if seen[api.OK] < 16 || seen[api.ErrArg] < 16 || seen[api.ErrTarget] < 16 || seen[api.ErrWork] < 16 || len(seen) != 4 {
		t.Errorf("what was wanted: %v", seen)
	}
}

// checked answers what Check is to answer, by the library.
func checked(r Rules) api.Errno {
	everyIs := r.Every == 2 || r.Every == 2016
	spanIs := r.Span == 1 || r.Span == 1<<31
	confirmIs := r.Confirm == 1 || r.Confirm == 100
	if !everyIs || !spanIs || !confirmIs {
		return api.ErrArg
	}
	top, first := told(r.Limit), told(r.First.Bits)
	switch {
	case top == nil || first == nil || first.Cmp(top) > 0:
		return api.ErrTarget
	case !does(r.First):
		return api.ErrWork
	}
	return api.OK
}

// P11.1: Top

func TestTopIsTheLimitsTarget(t *testing.T) {
	for _, c := range []struct {
		limit uint32
		want  wide.Wide
	}{
		{0x1d00ffff, wide.Wide{0, 0, 0, 0xffff0000}},
		{half, wide.Wide{0, 0, 0, 0x7fffff0000000000}},
		{greatest, wide.Wide{0, 0, 0, 0xffff000000000000}},
		{0x220000ff, wide.Wide{0, 0, 0, 0xff00000000000000}},
		{never, wide.Wide{1}},
		{0x03123456, wide.Wide{0x123456}},
	} {
		mustTop(t, c.limit, c.want)
	}
	for _, limit := range limits() {
		mustTop(t, limit, wideOf(mustTell(t, limit)))
	}
}

func TestTopWithoutATarget(t *testing.T) {
	for _, limit := range targetless() {
		mustTop(t, limit, wide.Wide{})
	}
}

// mustTop checks an answer of Top, of rules that may be and of such as can't: it looks at the limit alone.
func mustTop(t *testing.T, limit uint32, want wide.Wide) {
	t.Helper()
	whole := right(t)
	whole.Limit = limit
	for _, r := range []Rules{whole, {Limit: limit}, {Every: -1, Span: last, Limit: limit, Confirm: -1}} {
		if got := r.Top(); got != want {
			t.Errorf("Top of %#08x: %#x, want %#x", limit, got, want)
		}
	}
}

// P11.1: Next

// mustNext checks an answer of Next: bits and api.OK, or an error beside 0.
func mustNext(t *testing.T, r Rules, bits uint32, took int64, want uint32, wanted api.Errno) {
	t.Helper()
	if got, e := r.Next(bits, took); got != want || e != wanted {
		t.Errorf("Next of %#08x, took %d, by %d up to %#08x: %#08x, %d; want %#08x, %d", bits, took, r.Span, r.Limit, got, int(e), want, int(wanted))
	}
}

// spanned are rules of a span and a limit, that aren't set elsewhere: Next looks at nothing else.
func spanned(span, limit uint32) Rules {
	return Rules{Span: span, Limit: limit}
}

func TestNextOfTheExample(t *testing.T) {
	r := right(t)
	mustNext(t, r, 0x1d00ff00, 50, 0x1c7f8000, api.OK)
	mustNext(t, r, half, 50, 0x203fffff, api.OK)
}

// These are times and targets of the chain itself, but for the last one's first time, that is made up: the chain never took so long.
func TestNextOfTheChain(t *testing.T) {
	for _, c := range []struct {
		bits       uint32
		from, upTo int64
		want       uint32
	}{
		{0x1d00ffff, 1261130161, 1262152739, 0x1d00d86a}, // as the first time that it changed
		{0x1d00ffff, 1231006505, 1233061996, 0x1d00ffff}, // at the limit
		{0x1c05a3f4, 1279008237, 1279297671, 0x1c0168fd}, // less than a quarter
		{0x1c387f6f, 1263163443, 1269211443, 0x1d00e1fd}, // more than four times
	} {
		mustNext(t, chains(t), c.bits, c.upTo-c.from, c.want, api.OK)
	}
}

func TestNextScaledByHand(t *testing.T) {
	for _, c := range []struct {
		bits uint32
		took int64
		want uint32
	}{
		{0x1d00ffff, 100, 0x1d00ffff},
		{0x1d00ffff, 50, 0x1c7fff80},
		{0x1d00ffff, 200, 0x1d01fffe},
		{0x1d00ffff, 99, 0x1d00fd6f}, // ffff times 99, by 100, is fd6f and a bit
		{0x1d00ffff, 101, 0x1d01028e},
		{0x1d00ffff, 26, 0x1c428f19},
		{0x1d00ffff, 25, 0x1c3fffc0},
		{0x1d00ffff, 24, 0x1c3fffc0},
		{0x1d00ffff, 1, 0x1c3fffc0},
		{0x1d00ffff, 0, 0x1c3fffc0},
		{0x1d00ffff, -1, 0x1c3fffc0},
		{0x1d00ffff, -100, 0x1c3fffc0},
		{0x1d00ffff, math.MinInt64, 0x1c3fffc0},
		{0x1d00ffff, 399, 0x1d03fd6c},
		{0x1d00ffff, 400, 0x1d03fffc},
		{0x1d00ffff, 401, 0x1d03fffc},
		{0x1d00ffff, 1 << 32, 0x1d03fffc}, // not 0, cut to 32 bits
		{0x1d00ffff, 1<<32 + 100, 0x1d03fffc},
		{0x1d00ffff, math.MaxInt64, 0x1d03fffc},
		{0x03000100, 50, 0x02008000}, // bits with a greater exponent than they need are told by the least
		{0x03000100, 100, 0x02010000},
		{0x03000001, 100, 0x01010000},
		{0x1d00007f, 200, 0x1c00fe00},
		{0x037fffff, 200, 0x0400ffff}, // fffffe is cut to what two bytes tell
		{0x037fffff, 101, 0x04008147}, // of 8147ad
	} {
		mustNext(t, spanned(100, half), c.bits, c.took, c.want, api.OK)
	}
}

func TestNextAtTheLimit(t *testing.T) {
	for _, c := range []struct {
		limit, bits uint32
		took        int64
		want        uint32
	}{
		{0x1d00ffff, 0x1d00ffff, 100, 0x1d00ffff},
		{0x1d00ffff, 0x1d00ffff, 101, 0x1d00ffff},
		{0x1d00ffff, 0x1d00ffff, 400, 0x1d00ffff},
		{0x1d00ffff, 0x1d00ffff, 99, 0x1d00fd6f},
		{0x1d00ffff, 0x1c3fffc0, 400, 0x1d00ffff}, // just up to it
		{0x1d00ffff, 0x1c3fffc1, 400, 0x1d00ffff},
		{0x1d00ffff, 0x1c3fffbf, 400, 0x1d00fffe},
		{0x1d00ffff, 0x1d010000, 100, 0x1d00ffff}, // above it
		{0x1d00ffff, 0x1d010000, 50, 0x1d008000},
		{0x1d00ffff, half, 0, 0x1d00ffff}, // even a quarter is above it
		{0x1d00ffff, greatest, 0, 0x1d00ffff},
		{greatest, greatest, 100, greatest},
		{greatest, greatest, 1000, greatest}, // four times would be beyond 2^256
		{greatest, 0x220000ff, 101, greatest},
		{greatest, 0x220000ff, 100, 0x2100ff00},
		{greatest, 0x2100fffe, 100, 0x2100fffe},
		{greatest, half, 200, 0x2100ffff},
		{greatest, half, 199, 0x2100feb8},
		{0x220000ff, greatest, 100, 0x2100ff00}, // told by the least exponent, not as Limit has it
		{0x03000001, half, 400, never},
		{never, never, 0, never},
		{never, never, 100, never},
		{never, never, 400, never},
	} {
		mustNext(t, spanned(100, c.limit), c.bits, c.took, c.want, api.OK)
	}
}

func TestNextOfTheLeastTargets(t *testing.T) {
	for _, c := range []struct {
		bits uint32
		took int64
		want uint32
	}{
		{never, 0, never}, // it isn't less than 1
		{never, 100, never},
		{never, 199, never},
		{never, 200, 0x01020000},
		{never, 300, 0x01030000},
		{never, 400, 0x01040000},
		{never, math.MaxInt64, 0x01040000},
		{0x01030000, 25, never},
		{0x01030000, 66, never},
		{0x01030000, 67, 0x01020000},
		{0x01070000, 25, never},
		{0x01080000, 25, 0x01020000},
	} {
		mustNext(t, spanned(100, half), c.bits, c.took, c.want, api.OK)
	}
}

// A quarter of a span is rounded down, but at least a second.
func TestNextOfSmallAndGreatSpans(t *testing.T) {
	for _, c := range []struct {
		span uint32
		took int64
		want uint32 // behind 0x04100000, that is 2^28
	}{
		{1, math.MinInt64, 0x04100000},
		{1, 0, 0x04100000},
		{1, 1, 0x04100000},
		{1, 2, 0x04200000},
		{1, 3, 0x04300000},
		{1, 4, 0x04400000},
		{1, 5, 0x04400000},
		{2, 0, 0x04080000},
		{2, 1, 0x04080000},
		{2, 8, 0x04400000},
		{2, 9, 0x04400000},
		{3, 0, 0x04055555},
		{3, 1, 0x04055555},
		{3, 12, 0x04400000},
		{3, 13, 0x04400000},
		{4, 0, 0x04040000},
		{4, 1, 0x04040000},
		{4, 2, 0x04080000},
		{4, 16, 0x04400000},
		{4, 17, 0x04400000},
		{5, 0, 0x04033333},
		{5, 1, 0x04033333},
		{5, 2, 0x04066666},
		{5, 20, 0x04400000},
		{5, 21, 0x04400000},
		{7, 1, 0x04024924},
		{8, 1, 0x04040000},
		{8, 2, 0x04040000},
		{8, 3, 0x04060000},
		{1 << 31, 0, 0x04040000},
		{1 << 31, 1 << 29, 0x04040000},
		{1 << 31, 1<<29 - 1, 0x04040000},
		{1 << 31, 1 << 30, 0x04080000},
		{1 << 31, 1 << 31, 0x04100000},
		{1 << 31, 1 << 32, 0x04200000},
		{1 << 31, 1 << 33, 0x04400000}, // four times it needs more than 32 bits
		{1 << 31, 1 << 34, 0x04400000},
		{1 << 31, math.MaxInt64, 0x04400000},
		{1<<31 + 1, 1<<31 + 1, 0x04100000}, // of a span that rules can't have it is told all the same
		{last, last, 0x04100000},
		{last, 4 * last, 0x04400000},
		{last, 4*last + 1, 0x04400000},
		{last, 0, 0x0403ffff},
	} {
		mustNext(t, spanned(c.span, half), 0x04100000, c.took, c.want, api.OK)
	}
}

// next answers what Next is to answer, by the library.
func next(r Rules, bits uint32, took int64) (uint32, api.Errno) {
	ahead, top := told(bits), told(r.Limit)
	if ahead == nil || top == nil {
		return 0, api.ErrTarget
	}
	if r.Span == 0 {
		return 0, api.ErrArg
	}
	return written(scaled(ahead, top, r.Span, took)), api.OK
}

// scaled answers the next target itself, of which bits leave out what they can't tell.
func scaled(ahead, top *big.Int, span uint32, took int64) *big.Int {
	held, by := big.NewInt(took), big.NewInt(int64(span))
	quarter := new(big.Int).Quo(by, big.NewInt(4))
	if quarter.Sign() == 0 {
		quarter.SetInt64(1)
	}
	if held.Cmp(quarter) < 0 {
		held = quarter
	}
	if more := new(big.Int).Mul(by, big.NewInt(4)); held.Cmp(more) > 0 {
		held = more
	}
	a := new(big.Int).Mul(ahead, held)
	a.Quo(a, by)
	switch {
	case a.Cmp(top) > 0:
		return top
	case a.Sign() == 0:
		return big.NewInt(1)
	}
	return a
}

// anyBits are bits that tell targets and such as don't, at the edges and drawn.
func anyBits() []uint32 {
	all := append(limits(), targetless()...)
	rnd := rand.New(rand.NewSource(11))
	for range 60 {
		all = append(all, uint32(1+rnd.Intn(0x22))<<24|rnd.Uint32()>>(9+rnd.Intn(20)))
	}
	return all
}

func TestNextIsTheLibrarys(t *testing.T) {
	rnd := rand.New(rand.NewSource(12))
	told := 0
	for _, bits := range anyBits() {
		for _, limit := range append(limits(), 0, 0x21010000, half|1<<23) {
			span := append(spans(), 0, rnd.Uint32(), rnd.Uint32()>>rnd.Intn(32))[rnd.Intn(24)]
			for _, took := range append(times(span), rnd.Int63n(5*int64(span)+1), rnd.Int63()) {
				r := spanned(span, limit)
				want, wanted := next(r, bits, took)
				mustNext(t, r, bits, took, want, wanted)
				if wanted == api.OK {
					told++
				}
			}
		}
	}
	if told < 10000 {
		t.Errorf("only %d were told", told)
	}
}

func TestNextOfEverySpanAndTime(t *testing.T) {
	for _, span := range spans() {
		for _, took := range times(span) {
			for _, bits := range []uint32{never, 0x01070000, 0x04100000, 0x1d00ffff, half, 0x2100fffe} {
				for _, limit := range []uint32{0x1d00ffff, half, greatest} {
					r := spanned(span, limit)
					want, wanted := next(r, bits, took)
					mustNext(t, r, bits, took, want, wanted)
				}
			}
		}
	}
}

func TestNextWithoutATarget(t *testing.T) {
	for _, none := range targetless() {
		for _, span := range []uint32{0, 1, 100, 1 << 31, last} { // a Span of 0 beside: ErrTarget goes ahead
			for _, took := range []int64{math.MinInt64, 0, 100, math.MaxInt64} {
				mustNext(t, spanned(span, half), none, took, 0, api.ErrTarget)
				mustNext(t, spanned(span, none), half, took, 0, api.ErrTarget)
				mustNext(t, spanned(span, none), none, took, 0, api.ErrTarget)
				mustNext(t, spanned(span, 0x21010000), none, took, 0, api.ErrTarget)
			}
		}
	}
}

func TestNextWithoutASpan(t *testing.T) {
	for _, limit := range limits() {
		for _, took := range []int64{math.MinInt64, -1, 0, 1, 100, math.MaxInt64} {
			mustNext(t, spanned(0, limit), never, took, 0, api.ErrArg)
			mustNext(t, spanned(0, limit), greatest, took, 0, api.ErrArg)
		}
	}
	mustNext(t, Rules{}, 0, 0, 0, api.ErrTarget)
}

// What rules have beside Span and Limit, Next doesn't look at.
func TestNextOfRulesThatCantBe(t *testing.T) {
	r := Rules{Every: math.MinInt, Span: 100, Limit: half, Confirm: -1}
	mustNext(t, r, 0x1d00ff00, 50, 0x1c7f8000, api.OK)
	r = right(t)
	r.Every, r.Confirm, r.First.Bits = 0, 101, 0
	mustNext(t, r, 0x1d00ff00, 50, 0x1c7f8000, api.OK)
}

func TestWhatTookItsTimeKeepsItsBits(t *testing.T) {
	kept := 0
	for _, bits := range anyBits() {
		for _, limit := range limits() {
			ahead, top := told(bits), told(limit)
			if ahead == nil || ahead.Cmp(top) > 0 {
				continue
			}
			for _, span := range spans() {
				mustNext(t, spanned(span, limit), bits, int64(span), written(ahead), api.OK)
			}
			if written(ahead) == bits {
				kept++
			}
		}
	}
	if kept < 100 {
		t.Errorf("only %d kept their bits", kept)
	}
}

func TestWhatTookLongerHasNoLesserTarget(t *testing.T) {
	for _, span := range spans() {
		for _, bits := range []uint32{never, 0x017f0000, 0x037fffff, 0x1a44b9f2, 0x1d00ffff, half, greatest} {
			all := times(span)
			slices.Sort(all)
			before := new(big.Int)
			for _, took := range all {
				got, e := spanned(span, 0x21008000).Next(bits, took)
				next := told(got)
				if e != api.OK || next == nil || next.Cmp(before) < 0 {
					t.Fatalf("Next of %#08x, took %d, by %d: %#08x, %d; it was %#x", bits, took, span, got, int(e), before)
				}
				before = next
			}
		}
	}
}

// P11.1: Due

func TestDueAtEachHeight(t *testing.T) {
	for _, every := range []int{1, 2, 3, 4, 7, 2015, 2016, 2017} {
		for round := -2; round <= 3; round++ {
			from := round * every
			mustDue(t, every, from, round != 0)
			for _, off := range []int{1, every - 1} {
				mustDue(t, every, from+off, (from+off)%every == 0 && from+off != 0)
			}
		}
	}
	for height := range 41 {
		mustDue(t, 4, height, slices.Contains([]int{4, 8, 12, 16, 20, 24, 28, 32, 36, 40}, height))
	}
}

func TestDueAtTheEnds(t *testing.T) {
	for _, c := range []struct {
		every, height int
		want          bool
	}{
		{1, math.MaxInt, true},
		{1, math.MinInt, true},
		{1, -1, true},
		{1, 0, false},
		{2, math.MinInt, true},
		{2, math.MaxInt, false},
		{2, math.MaxInt - 1, true},
		{3, math.MinInt, false},
		{2016, 2016, true},
		{2016, 4032, true},
		{2016, 2015, false},
		{2016, 2017, false},
		{2016, 1008, false},
		{2016, -2016, true}, // a multiple too, and not 0
		{2016, -2015, false},
		{math.MaxInt, 1, false},
		{math.MaxInt, math.MaxInt, true},
		{math.MaxInt, -math.MaxInt, true},
		{math.MaxInt, math.MinInt, false},
		{math.MaxInt, 0, false},
	} {
		mustDue(t, c.every, c.height, c.want)
	}
}

func TestDueWithoutAnEvery(t *testing.T) {
	for _, every := range []int{0, -1, -2, -2016, math.MinInt, math.MinInt + 1} {
		for _, height := range []int{math.MinInt, -2016, -1, 0, 1, 2, 2016, math.MaxInt} {
			mustDue(t, every, height, false)
		}
		mustDue(t, every, every, false)
	}
}

// mustDue checks an answer of Due: it looks at Every alone.
func mustDue(t *testing.T, every, height int, want bool) {
	t.Helper()
	whole := right(t)
	whole.Every = every
	for _, r := range []Rules{whole, {Every: every}} {
		if got := r.Due(height); got != want {
			t.Errorf("Due at %d of every %d: %t", height, every, got)
		}
	}
}

// P11.2

func TestMedianOfKnownTimes(t *testing.T) {
	for _, c := range []struct {
		times []uint32
		want  uint32
	}{
		{nil, 0},
		{[]uint32{}, 0},
		{[]uint32{3, 1, 2}, 2}, // the chapter's example
		{[]uint32{0}, 0},
		{[]uint32{7}, 7},
		{[]uint32{last}, last},
		{[]uint32{1, 5}, 5}, // the greater of both
		{[]uint32{5, 1}, 5},
		{[]uint32{4, 4}, 4},
		{[]uint32{0, last}, last},
		{[]uint32{last, 0}, last},
		{[]uint32{1, 2, 3}, 2},
		{[]uint32{3, 2, 1}, 2},
		{[]uint32{2, 3, 1}, 2},
		{[]uint32{9, 9, 1}, 9},
		{[]uint32{1, 9, 1}, 1},
		{[]uint32{0, last, last}, last},
		{[]uint32{last, 0, 0}, 0},
		{[]uint32{1, 2, 3, 4}, 3},
		{[]uint32{4, 3, 2, 1}, 3},
		{[]uint32{3, 1, 4, 2}, 3},
		{[]uint32{2, 4, 1, 3}, 3},
		{[]uint32{5, 5, 5, 5}, 5},
		{[]uint32{1, 1, 9, 9}, 9},
		{[]uint32{1, 1, 1, 9}, 1},
		{[]uint32{0, 0, last, last}, last},
		{[]uint32{1 << 31, 1, 1<<31 - 1}, 1<<31 - 1}, // numbers without a sign
		{[]uint32{1, 2, 3, 4, 5, 6, 7, 8, 9, 10, 11}, 6},
		{[]uint32{11, 10, 9, 8, 7, 6, 5, 4, 3, 2, 1}, 6},
		{[]uint32{6, 1, 11, 2, 10, 3, 9, 4, 8, 5, 7}, 6},
		{[]uint32{100, 20, 3}, 20}, // not as texts
	} {
		if got := Median(c.times); got != c.want {
			t.Errorf("Median of %d: %d, want %d", c.times, got, c.want)
		}
	}
}

// Of n times half, rounded down, stand ahead of the middle one, as they are in order.
func TestMedianIsTheMiddleOne(t *testing.T) {
	rnd := rand.New(rand.NewSource(13))
	for n := 1; n <= 60; n++ {
		for _, below := range []int64{2, 5, 1 << 10, 1 << 32} {
			l := make([]uint32, n)
			for i := range l {
				l[i] = uint32(rnd.Int63n(below))
			}
			got, less, more := Median(l), 0, 0
			for _, x := range l {
				if x < got {
					less++
				}
				if x > got {
					more++
				}
			}
			if !slices.Contains(l, got) || less > n/2 || more > n-1-n/2 {
				t.Errorf("Median of %d: %d, with %d less and %d more", l, got, less, more)
			}
		}
	}
}

func TestMedianInAnyOrder(t *testing.T) {
	rnd := rand.New(rand.NewSource(14))
	for n := 1; n <= 12; n++ {
		l := make([]uint32, n)
		for i := range l {
			l[i] = uint32(10 * (i + 1))
		}
		for range 100 {
			rnd.Shuffle(n, func(i, j int) { l[i], l[j] = l[j], l[i] })
			if got, want := Median(l), uint32(10*(n/2+1)); got != want {
				t.Fatalf("Median of %d: %d, want %d", l, got, want)
			}
		}
	}
}

// P11.3

// leftOut answers how much the bits of a target may leave out of it: less than this.
func leftOut(a *big.Int) *big.Int {
	size := uint(len(a.Bytes()))
	if size <= 2 {
		return big.NewInt(1)
	}
	return bigPower(8 * (size - 2))
}

func TestNextKeepsItsBounds(t *testing.T) {
	four := big.NewInt(4)
	looked := 0
	for _, bits := range anyBits() {
		for _, limit := range limits() {
			ahead, top := told(bits), told(limit)
			if ahead == nil {
				continue
			}
			most := new(big.Int).Mul(ahead, four)
			for _, span := range spans() {
				for _, took := range []int64{math.MinInt64, -1, 0, 1, int64(span) / 4, int64(span), 4 * int64(span), 4*int64(span) + 1, math.MaxInt64} {
					got, e := spanned(span, limit).Next(bits, took)
					next := told(got)
					if e != api.OK || next == nil || next.Cmp(top) > 0 || next.Cmp(most) > 0 {
						t.Fatalf("Next of %#08x, took %d, by %d up to %#08x: %#08x, %d", bits, took, span, limit, got, int(e))
					}
					if next.Cmp(least(ahead, top, span)) < 0 {
						t.Fatalf("Next of %#08x, took %d, by %d up to %#08x: %#08x, too little", bits, took, span, limit, got)
					}
					looked++
				}
			}
		}
	}
	if looked < 10000 {
		t.Errorf("only %d were looked at", looked)
	}
}

// least answers what a next target is at least: the limit, or, but for what bits leave out, a quarter, as far as Span has one in whole seconds.
func least(ahead, top *big.Int, span uint32) *big.Int {
	a := new(big.Int).Quo(ahead, big.NewInt(4))
	if span%4 != 0 && span > 4 {
		a.Mul(ahead, big.NewInt(int64(span/4)))
		a.Quo(a, big.NewInt(int64(span)))
	}
	if a.Cmp(top) >= 0 {
		a = top
	}
	a = new(big.Int).Sub(a, leftOut(a))
	return a.Add(a, big.NewInt(1))
}

func TestNothingHandedInIsChangedOrKept(t *testing.T) {
	room := []uint32{90, 91, 5, 3, 9, 1, 7, 92, 93}
	before := slices.Clone(room)
	for n := range 6 {
		if got, want := Median(room[2:2+n]), []uint32{0, 5, 5, 5, 5, 5}[n]; got != want {
			t.Errorf("Median of %d: %d", room[2:2+n], got)
		}
		if !slices.Equal(room, before) {
			t.Fatalf("Median changed what it was handed, or its spare room: %d", room)
		}
	}
	r := right(t)
	same := r
	r.Check()
	r.Top()
	r.Next(0x1d00ffff, 50)
	r.Due(8)
	if r != same {
		t.Errorf("%+v became %+v", same, r)
	}
}

func TestAnswersHangOnArgumentsAlone(t *testing.T) {
	r, l := right(t), []uint32{5, 1, 3}
	for range 3 {
		mustCheck(t, r, api.OK)
		mustCheck(t, Rules{}, api.ErrArg)
		mustTop(t, half, wide.Wide{0, 0, 0, 0x7fffff0000000000})
		mustNext(t, r, 0x1d00ff00, 50, 0x1c7f8000, api.OK)
		mustNext(t, r, 0, 50, 0, api.ErrTarget)
		mustDue(t, 4, 8, true)
		if Median(l) != 3 || Median(l[:2]) != 5 {
			t.Error("Median answers otherwise")
		}
	}
}
