package target

import (
	"bytes"
	"math"
	"math/big"
	"math/rand"
	"slices"
	"testing"

	"pontage/api"
	"pontage/digest"
	"pontage/wide"
)

const (
	full = math.MaxUint64
	half = 1 << 63
)

// greatest is 2^256 - 1.
func greatest() wide.Wide {
	return wide.Wide{full, full, full, full}
}

// power answers 2^n.
func power(n int) wide.Wide {
	var a wide.Wide
	a[n/64] = 1 << (n % 64)
	return a
}

// bigPower answers 2^n, as the library has it.
func bigPower(n uint) *big.Int {
	return new(big.Int).Lsh(big.NewInt(1), n)
}

// bigOf answers a number as the library has it, by nothing of package wide's own.
func bigOf(a wide.Wide) *big.Int {
	b := new(big.Int)
	for _, word := range slices.Backward(a[:]) {
		b.Lsh(b, 64)
		b.Or(b, new(big.Int).SetUint64(word))
	}
	return b
}

// wideOf answers a number of the library's that is below 2^256.
func wideOf(b *big.Int) wide.Wide {
	word := new(big.Int).SetUint64(full)
	rest := new(big.Int).Set(b)
	var a wide.Wide
	for i := range a {
		a[i] = new(big.Int).And(rest, word).Uint64()
		rest.Rsh(rest, 64)
	}
	return a
}

// hashOf answers the hash whose bytes, the lowest first, are the number.
func hashOf(a wide.Wide) digest.Hash {
	var h digest.Hash
	for i := range h {
		h[i] = byte(a[i/8] >> (8 * (i % 8)))
	}
	return h
}

// movedUp are the numbers that the chapter has its edges at, moved up byte by byte, as far as they are below 2^256.
func movedUp() []wide.Wide {
	var all []wide.Wide
	for _, x := range []int64{1, 2, 0x12, 0x7f, 0x80, 0x81, 0xff, 0x100, 0x101, 0x1234, 0x7fff, 0x8000, 0x8001, 0xffff, 0x10000, 0x123456, 0x7fffff, 0x800000, 0x800001, 0xffffff, 0x1000000, 0x7fffffff, 0x80000000, 0x80ffffff} {
		b := big.NewInt(x)
		for b.BitLen() <= 256 {
			all = append(all, wideOf(b))
			b.Lsh(b, 8)
		}
	}
	return all
}

// targets are those at an end, those that the chapter has its edges at, powers of 2 and what is next to them, and drawn ones of any size.
func targets() []wide.Wide {
	all := append(movedUp(), wide.Wide{}, greatest(), wide.Wide{full - 1, full, full, full}, wide.Wide{0, full, full, full}, wide.Wide{full, full, full, half - 1})
	for n := range 256 {
		less := new(big.Int).Sub(bigPower(uint(n)), big.NewInt(1))
		all = append(all, power(n), wideOf(less))
		if n > 0 {
			more := power(n)
			more[0]++
			all = append(all, more)
		}
	}
	rnd := rand.New(rand.NewSource(6))
	for range 300 {
		b := new(big.Int).Rand(rnd, bigPower(uint(1+rnd.Intn(256))))
		all = append(all, wideOf(b))
	}
	return all
}

// mantissas are those at an end or at an edge of a byte, and drawn ones.
func mantissas() []uint32 {
	all := []uint32{0, 1, 2, 0x7f, 0x80, 0x81, 0xff, 0x100, 0x101, 0x7fff, 0x8000, 0x8001, 0xffff, 0x10000, 0x10001, 0x123456, 0x3fffff, 0x400000, 0x7f0000, 0x7fff00, 0x7ffffe, 0x7fffff}
	rnd := rand.New(rand.NewSource(7))
	for range 20 {
		all = append(all, rnd.Uint32()>>(9+rnd.Intn(22)))
	}
	return all
}

// eachBits goes through bits of every exponent, mantissas, and both signs.
func eachBits(look func(exponent, sign, mantissa, bits uint32)) {
	for exponent := range uint32(256) {
		for _, m := range mantissas() {
			look(exponent, 0, m, exponent<<24|m)
			look(exponent, 1, m, exponent<<24|0x800000|m)
		}
	}
}

// mustDecode checks an answer of Decode: a target and api.OK, or an error beside 0.
func mustDecode(t *testing.T, bits uint32, want wide.Wide, wanted api.Errno) {
	t.Helper()
	if got, e := Decode(bits); got != want || e != wanted {
		t.Errorf("Decode of %#08x: %#x, %d; want %#x, %d", bits, got, int(e), want, int(wanted))
	}
}

// mustEncode checks an answer of Encode.
func mustEncode(t *testing.T, a wide.Wide, want uint32) {
	t.Helper()
	if got := Encode(a); got != want {
		t.Errorf("Encode of %#x: %#08x, want %#08x", a, got, want)
	}
}

// P6.1

func TestDecodeOfKnownBits(t *testing.T) {
	for _, c := range []struct {
		bits uint32
		want wide.Wide
	}{
		{0x1d00ffff, wide.Wide{0, 0, 0, 0xffff0000}}, // the chapter's example
		{0x1b0404cb, wide.Wide{0, 0, 0, 0x404cb}},
		{0x01010000, wide.Wide{1}}, // exponents below 3: rounded down
		{0x01123456, wide.Wide{0x12}},
		{0x0101ffff, wide.Wide{1}},
		{0x017fffff, wide.Wide{0x7f}},
		{0x02000100, wide.Wide{1}},
		{0x02008000, wide.Wide{0x80}},
		{0x0200ffff, wide.Wide{0xff}},
		{0x02123456, wide.Wide{0x1234}},
		{0x027fffff, wide.Wide{0x7fff}},
		{0x03000001, wide.Wide{1}},
		{0x0300007f, wide.Wide{0x7f}},
		{0x03000080, wide.Wide{0x80}},
		{0x03007fff, wide.Wide{0x7fff}},
		{0x03008000, wide.Wide{0x8000}},
		{0x03123456, wide.Wide{0x123456}},
		{0x037fffff, wide.Wide{0x7fffff}},
		{0x04000001, wide.Wide{0x100}},
		{0x04008000, wide.Wide{0x800000}},
		{0x0400ffff, wide.Wide{0xffff00}},
		{0x04123456, wide.Wide{0x12345600}},
		{0x05009234, wide.Wide{0x92340000}},
		{0x0a7fffff, wide.Wide{0xff00000000000000, 0x7fff}},
		{0x1f7fffff, wide.Wide{0, 0, 0, 0x7fffff00000000}},
	} {
		mustDecode(t, c.bits, c.want, api.OK)
	}
}

func TestDecodeJustBelowTheEnd(t *testing.T) {
	for _, c := range []struct {
		bits uint32
		top  uint64 // the highest word; the others are 0
	}{
		{0x20000001, 0x10000000000},
		{0x2000007f, 0x7f0000000000},
		{0x20000080, 0x800000000000},
		{0x20007fff, 0x7fff0000000000},
		{0x20008000, 0x80000000000000},
		{0x20123456, 0x1234560000000000},
		{0x207fffff, 0x7fffff0000000000},
		{0x21000001, 0x1000000000000},
		{0x21000080, 0x80000000000000},
		{0x21007fff, 0x7fff000000000000},
		{0x21008000, 0x8000000000000000},
		{0x2100ffff, 0xffff000000000000},
		{0x22000001, 0x100000000000000},
		{0x2200007f, 0x7f00000000000000},
		{0x22000080, 0x8000000000000000},
		{0x220000ff, 0xff00000000000000},
	} {
		mustDecode(t, c.bits, wide.Wide{0, 0, 0, c.top}, api.OK)
	}
}

func TestDecodeOfBitsThatCantBe(t *testing.T) {
	for _, bits := range []uint32{
		// They tell 0: by their mantissa, or rounded down.
		0, 1, 0x7f, 0x80, 0x7fff, 0x8000, 0x123456, 0x7fffff,
		0x01000000, 0x01000001, 0x0100007f, 0x01000080, 0x01003456, 0x01007fff, 0x01008000, 0x0100ffff,
		0x02000000, 0x02000001, 0x0200007f, 0x02000080, 0x020000ff,
		0x03000000, 0x04000000, 0x1d000000, 0x1f000000, 0x20000000, 0x21000000, 0x22000000, 0x23000000, 0x24000000, 0xff000000,
		// They have the sign.
		0x00800000, 0x00800001, 0x00ffffff, 0x01800000, 0x01800001, 0x01803456, 0x01810000, 0x01ffffff,
		0x02800001, 0x02800100, 0x02808000, 0x03800000, 0x03800001, 0x03ffffff, 0x04800000, 0x04800001, 0x04923456,
		0x1d800000, 0x1d80ffff, 0x1f800001, 0x20800000, 0x20ffffff, 0x2180ffff, 0x228000ff, 0x23800001,
		// They aren't below 2^256.
		0x21010000, 0x21123456, 0x217fffff,
		0x22000100, 0x22007fff, 0x22008000, 0x2200ffff, 0x22010000, 0x227fffff,
		0x23000001, 0x2300007f, 0x23000080, 0x230000ff, 0x2300ffff, 0x237fffff,
		0x24000001, 0x247fffff, 0x43000001, 0x63000001, 0x80000001, 0xff000001, 0xff123456, 0xff7fffff,
		// Of several errors there is but one.
		0x21810000, 0x22ffffff, 0x23800000, 0xff800000, 0xff800001, 0xffffffff,
	} {
		mustDecode(t, bits, wide.Wide{}, api.ErrTarget)
	}
}

// decoded answers what bits tell, by the library: nil, if they can't be.
func decoded(exponent, sign, mantissa uint32) *big.Int {
	told := new(big.Int).Lsh(big.NewInt(int64(mantissa)), uint(8*exponent))
	told.Rsh(told, 24)
	if sign == 1 && mantissa != 0 || told.Sign() == 0 || told.Cmp(bigPower(256)) >= 0 {
		return nil
	}
	return told
}

func TestDecodeIsTheLibrarys(t *testing.T) {
	told := 0
	eachBits(func(exponent, sign, mantissa, bits uint32) {
		want := decoded(exponent, sign, mantissa)
		if want == nil {
			mustDecode(t, bits, wide.Wide{}, api.ErrTarget)
			return
		}
		told++
		mustDecode(t, bits, wideOf(want), api.OK)
	})
	if told < 1000 {
		t.Errorf("only %d were told", told)
	}
}

func TestEncodeOfKnownTargets(t *testing.T) {
	for _, c := range []struct {
		a    wide.Wide
		want uint32
	}{
		{wide.Wide{}, 0},
		{wide.Wide{0, 0, 0, 0xffff0000}, 0x1d00ffff}, // the chapter's example
		{wide.Wide{0, 0, 0, 0x404cb}, 0x1b0404cb},
		{wide.Wide{1}, 0x01010000},
		{wide.Wide{0x12}, 0x01120000},
		{wide.Wide{0x7f}, 0x017f0000},
		{wide.Wide{0x80}, 0x02008000}, // its highest bit would be the sign
		{wide.Wide{0xff}, 0x0200ff00},
		{wide.Wide{0x100}, 0x02010000},
		{wide.Wide{0x1234}, 0x02123400},
		{wide.Wide{0x7fff}, 0x027fff00},
		{wide.Wide{0x8000}, 0x03008000},
		{wide.Wide{0xffff}, 0x0300ffff},
		{wide.Wide{0x10000}, 0x03010000},
		{wide.Wide{0x123456}, 0x03123456},
		{wide.Wide{0x7fffff}, 0x037fffff},
		{wide.Wide{0x800000}, 0x04008000},
		{wide.Wide{0x8000ff}, 0x04008000}, // rounded down
		{wide.Wide{0xffffff}, 0x0400ffff},
		{wide.Wide{0x1000000}, 0x04010000},
		{wide.Wide{0x12345600}, 0x04123456},
		{wide.Wide{0x123456ff}, 0x04123456},
		{wide.Wide{0x7fffffff}, 0x047fffff},
		{wide.Wide{0x92340000}, 0x05009234},
		{wide.Wide{0x9234ffff}, 0x05009234},
		{wide.Wide{full}, 0x0900ffff},
		{wide.Wide{0, 1}, 0x09010000},
		{wide.Wide{full, 0x7f}, 0x097fffff},
		{wide.Wide{0xff00000000000000, 0x7fff}, 0x0a7fffff},
		{wide.Wide{0, 0, 1}, 0x11010000},
		{wide.Wide{0, 0, 0, 1}, 0x19010000},
		{wide.Wide{0, 0, 0, 0x7fffff0000000000}, 0x207fffff},
		{wide.Wide{full, full, full, half - 1}, 0x207fffff},
		{wide.Wide{0, 0, 0, half}, 0x21008000},
		{wide.Wide{0, 0, 0, 0xffff000000000000}, 0x2100ffff},
		{wide.Wide{0, 0, 0, 0xff00000000000000}, 0x2100ff00},
		{wide.Wide{full - 1, full, full, full}, 0x2100ffff},
		{greatest(), 0x2100ffff},
	} {
		mustEncode(t, c.a, c.want)
	}
}

// encoded answers a target's bits by the chapter's sentence, of the fewest bytes that write it.
func encoded(a wide.Wide) uint32 {
	b := bigOf(a).Bytes() // the highest first
	size := uint32(len(b))
	b = append(b, 0, 0, 0)
	if b[0] >= 0x80 {
		return (size+1)<<24 | uint32(b[0])<<8 | uint32(b[1])
	}
	return size<<24 | uint32(b[0])<<16 | uint32(b[1])<<8 | uint32(b[2])
}

func TestEncodeIsOfTheFewestBytes(t *testing.T) {
	for _, a := range targets() {
		mustEncode(t, a, encoded(a))
	}
}

func TestEncodeIsRoundedDownAndHasNoSign(t *testing.T) {
	for _, a := range targets() {
		if a == (wide.Wide{}) {
			continue // no bits tell it
		}
		bits := Encode(a)
		if bits&0x800000 != 0 {
			t.Errorf("Encode of %#x: %#08x, that has the sign", a, bits)
		}
		told, e := Decode(bits)
		if e != api.OK || told.Cmp(a) > 0 {
			t.Errorf("Encode of %#x: %#08x, that tells %#x, %d", a, bits, told, int(e))
		}
		if next, e := Decode(above(bits)); e == api.OK && next.Cmp(a) <= 0 {
			t.Errorf("Encode of %#x: %#08x, though %#08x tells no more than it", a, bits, above(bits))
		}
		if lower, e := Decode((bits>>24-1)<<24 | 0x7fffff); e == api.OK && lower.Cmp(told) >= 0 {
			t.Errorf("Encode of %#x: %#08x has not the least exponent", a, bits)
		}
	}
}

// above answers the bits of the next target that bits can tell.
func above(bits uint32) uint32 {
	exponent, mantissa := bits>>24, bits&0x7fffff
	if exponent < 3 {
		mantissa += 1 << (8 * (3 - exponent))
	} else {
		mantissa++
	}
	if mantissa > 0x7fffff {
		return (exponent+1)<<24 | 0x8000
	}
	return exponent<<24 | mantissa
}

// mustWork checks an answer of Work.
func mustWork(t *testing.T, a, want wide.Wide) {
	t.Helper()
	if got := Work(a); got != want {
		t.Errorf("Work of %#x: %#x, want %#x", a, got, want)
	}
}

func TestWorkOfKnownTargets(t *testing.T) {
	for _, c := range []struct{ a, want wide.Wide }{
		{wide.Wide{}, greatest()}, // 2^256 would be too great
		{wide.Wide{1}, power(255)},
		{wide.Wide{2}, wide.Wide{full / 3, full / 3, full / 3, full / 3}},
		{wide.Wide{3}, power(254)},
		{wide.Wide{0xff}, power(248)},
		{wide.Wide{0, 0, 0, 0xffff0000}, wide.Wide{0x100010001}}, // the chapter's example
		{wide.Wide{full}, power(192)},
		{wide.Wide{full, full}, power(128)},
		{wide.Wide{0, 0, 1}, wide.Wide{full, full}}, // just not 2^128
		{wide.Wide{full, full, full}, power(64)},
		{wide.Wide{0, 0, 0, 1}, wide.Wide{full}},
		{wide.Wide{full, full, full, half/2 - 1}, wide.Wide{4}},
		{wide.Wide{0, 0, 0, half / 2}, wide.Wide{3}},
		{wide.Wide{full, full, full, half - 1}, wide.Wide{2}},
		{power(255), wide.Wide{1}},
		{wide.Wide{1, 0, 0, half}, wide.Wide{1}},
		{wide.Wide{full - 1, full, full, full}, wide.Wide{1}},
		{greatest(), wide.Wide{1}},
	} {
		mustWork(t, c.a, c.want)
	}
}

func TestWorkIsTheLibrarys(t *testing.T) {
	for _, a := range targets() {
		more := new(big.Int).Add(bigOf(a), big.NewInt(1))
		work := more.Quo(bigPower(256), more)
		if a != (wide.Wide{}) {
			mustWork(t, a, wideOf(work))
		}
	}
}

func TestMeetsKnownTargets(t *testing.T) {
	first, e := digest.Parse("000000000019d6689c085ae165831e934ff763ae46a2a6c172b3f1b60a8ce26f")
	if e != api.OK {
		t.Fatal(e)
	}
	all := digest.Hash(bytes.Repeat([]byte{255}, 32))
	for _, c := range []struct {
		h    digest.Hash
		a    wide.Wide
		want bool
	}{
		{first, wide.Wide{0, 0, 0, 0xffff0000}, true}, // the chain's first header
		{first, wide.Wide{0x72b3f1b60a8ce26f, 0x4ff763ae46a2a6c1, 0x9c085ae165831e93, 0x19d668}, true},
		{first, wide.Wide{0x72b3f1b60a8ce26e, 0x4ff763ae46a2a6c1, 0x9c085ae165831e93, 0x19d668}, false},
		{first, wide.Wide{0x72b3f1b60a8ce270, 0x4ff763ae46a2a6c1, 0x9c085ae165831e93, 0x19d668}, true},
		{first, wide.Wide{full, full, full, 0x19d667}, false},
		{first, wide.Wide{0, 0, 0, 0x19d669}, true},
		{digest.Hash{}, wide.Wide{}, true},
		{digest.Hash{0: 1}, wide.Wide{}, false},
		{digest.Hash{31: 1}, wide.Wide{}, false},
		{digest.Hash{}, wide.Wide{1}, true},
		{digest.Hash{0: 1}, wide.Wide{1}, true}, // its first byte is the lowest
		{digest.Hash{0: 2}, wide.Wide{1}, false},
		{digest.Hash{31: 1}, wide.Wide{1}, false},
		{digest.Hash{31: 1}, wide.Wide{0, 0, 0, 1 << 56}, true}, // its last byte is the highest
		{digest.Hash{0: 1, 31: 1}, wide.Wide{0, 0, 0, 1 << 56}, false},
		{digest.Hash{0: 1, 31: 1}, wide.Wide{1, 0, 0, 1 << 56}, true},
		{digest.Hash{0: 255, 31: 1}, wide.Wide{0, 0, 0, 2 << 56}, true},
		{digest.Hash{0: 1, 31: 2}, wide.Wide{255, 0, 0, 1 << 56}, false},
		{digest.Hash{0: 2, 31: 1}, wide.Wide{1, 0, 0, 2 << 56}, true},
		{digest.Hash{0: 1, 31: 2}, wide.Wide{2, 0, 0, 1 << 56}, false},
		{digest.Hash{7: 1, 8: 2}, wide.Wide{1 << 56, 2}, true},
		{digest.Hash{7: 1, 8: 2}, wide.Wide{1<<56 - 1, 2}, false},
		{digest.Hash{15: 128, 16: 3}, wide.Wide{full, half - 1, 3}, false},
		{digest.Hash{15: 128, 16: 3}, wide.Wide{0, half, 3}, true},
		{all, greatest(), true},
		{all, wide.Wide{full - 1, full, full, full}, false},
		{all, wide.Wide{full, full, full, full - 1}, false},
		{digest.Hash{}, greatest(), true},
	} {
		if got := Meets(c.h, c.a); got != c.want {
			t.Errorf("Meets of %s, %#x: %t", c.h.Text(), c.a, got)
		}
	}
}

func TestMeetsUpToTheTarget(t *testing.T) {
	one := big.NewInt(1)
	for _, a := range targets() {
		if !Meets(hashOf(a), a) {
			t.Errorf("%#x isn't met by itself", a)
		}
		if !Meets(digest.Hash{}, a) {
			t.Errorf("%#x isn't met by 0", a)
		}
		if a != (wide.Wide{}) {
			less := wideOf(new(big.Int).Sub(bigOf(a), one))
			if !Meets(hashOf(less), a) {
				t.Errorf("%#x isn't met by one less", a)
			}
		}
		if a != greatest() {
			more := wideOf(new(big.Int).Add(bigOf(a), one))
			if Meets(hashOf(more), a) || Meets(hashOf(greatest()), a) {
				t.Errorf("%#x is met by more", a)
			}
		}
	}
}

func TestMeetsIsTheLibrarys(t *testing.T) {
	rnd := rand.New(rand.NewSource(8))
	all := targets()
	for range 20000 {
		var h digest.Hash
		if rnd.Intn(2) == 0 {
			h = hashOf(all[rnd.Intn(len(all))])
		}
		h[rnd.Intn(32)] = byte(rnd.Intn(256)) // so that some are alike but for one byte
		a := all[rnd.Intn(len(all))]
		highestFirst := slices.Clone(h[:])
		slices.Reverse(highestFirst)
		want := new(big.Int).SetBytes(highestFirst).Cmp(bigOf(a)) <= 0
		if got := Meets(h, a); got != want {
			t.Fatalf("Meets of %s, %#x: %t", h.Text(), a, got)
		}
	}
}

// P6.2

// mustScale checks an answer of Scale: a target and api.OK, or an error beside 0.
func mustScale(t *testing.T, a wide.Wide, up, by uint64, most, want wide.Wide, wanted api.Errno) {
	t.Helper()
	if got, e := Scale(a, up, by, most); got != want || e != wanted {
		t.Errorf("%#x by %d by %d, at most %#x: %#x, %d; want %#x, %d", a, up, by, most, got, int(e), want, int(wanted))
	}
}

func TestScaleOfKnownTargets(t *testing.T) {
	third := wide.Wide{full / 3, full / 3, full / 3, full / 3}
	for _, c := range []struct {
		a        wide.Wide
		up, by   uint64
		most, is wide.Wide
	}{
		{wide.Wide{100}, 3, 4, wide.Wide{70}, wide.Wide{70}}, // more than the most
		{wide.Wide{100}, 3, 4, wide.Wide{74}, wide.Wide{74}},
		{wide.Wide{100}, 3, 4, wide.Wide{75}, wide.Wide{75}}, // the most
		{wide.Wide{100}, 3, 4, wide.Wide{76}, wide.Wide{75}}, // one less
		{wide.Wide{100}, 3, 4, greatest(), wide.Wide{75}},
		{wide.Wide{100}, 3, 4, wide.Wide{1}, wide.Wide{1}},
		{wide.Wide{101}, 3, 4, greatest(), wide.Wide{75}}, // rounded down
		{wide.Wide{102}, 3, 4, greatest(), wide.Wide{76}},
		{wide.Wide{103}, 3, 4, greatest(), wide.Wide{77}},
		{wide.Wide{7}, 1, 1, greatest(), wide.Wide{7}},
		{wide.Wide{7}, 5, 7, greatest(), wide.Wide{5}}, // though 7 is but one time 7
		{wide.Wide{6}, 5, 7, greatest(), wide.Wide{4}},
		{wide.Wide{}, 1, 1, greatest(), wide.Wide{1}}, // 0 becomes 1
		{wide.Wide{}, 0, 1, greatest(), wide.Wide{1}},
		{wide.Wide{}, full, full, wide.Wide{1}, wide.Wide{1}},
		{wide.Wide{1}, 1, 2, greatest(), wide.Wide{1}},
		{wide.Wide{1}, 1, full, greatest(), wide.Wide{1}},
		{wide.Wide{full - 1}, 1, full, greatest(), wide.Wide{1}},
		{wide.Wide{full}, 1, full, greatest(), wide.Wide{1}},
		{wide.Wide{full - 1, 1}, 1, full, greatest(), wide.Wide{2}},
		{wide.Wide{100}, 0, 4, greatest(), wide.Wide{1}},
		{greatest(), 0, 1, greatest(), wide.Wide{1}},
		{greatest(), 0, full, wide.Wide{1}, wide.Wide{1}},
		{wide.Wide{1}, full, 1, greatest(), wide.Wide{full}},
		{wide.Wide{full}, full, 1, greatest(), wide.Wide{1, full - 1}},
		{wide.Wide{full}, full, full, greatest(), wide.Wide{full}},
		{wide.Wide{full, full, full}, full, 1, greatest(), wide.Wide{1, full, full, full - 1}},
		{wide.Wide{0, 0, 0, 0xffff0000}, 302400, 1209600, wide.Wide{0, 0, 0, 0xffff0000}, wide.Wide{0, 0, 0, 0x3fffc000}},
		{wide.Wide{0, 0, 0, 0xffff0000}, 1209600, 1209600, wide.Wide{0, 0, 0, 0xffff0000}, wide.Wide{0, 0, 0, 0xffff0000}},
		{wide.Wide{0, 0, 0, 0xffff0000}, 4838400, 1209600, wide.Wide{0, 0, 0, 0xffff0000}, wide.Wide{0, 0, 0, 0xffff0000}},
		{wide.Wide{0, 0, 0, 0xffff0000}, 4838400, 1209600, greatest(), wide.Wide{0, 0, 0, 0x3fffc0000}},
		{greatest(), 1, 3, greatest(), third},
		{power(255), 1, 1, power(255), power(255)},
		{power(255), 1, 1, wide.Wide{full, full, full, half - 1}, wide.Wide{full, full, full, half - 1}},
		{power(255), 1, 1, wide.Wide{1, 0, 0, half}, power(255)},
	} {
		mustScale(t, c.a, c.up, c.by, c.most, c.is, api.OK)
	}
}

func TestScaleWhereTheProductGoesBeyond(t *testing.T) {
	lessOne := wide.Wide{full - 1, full, full, full}
	const a = 0xaaaaaaaaaaaaaaaa // of four of these words a number has two thirds of 2^256 - 1
	thirds, lessThirds, moreThirds := wide.Wide{a, a, a, a}, wide.Wide{a - 1, a, a, a}, wide.Wide{a + 1, a, a, a}
	for _, c := range []struct {
		a        wide.Wide
		up, by   uint64
		most, is wide.Wide
	}{
		// What is asked doesn't go beyond.
		{greatest(), 2, 2, greatest(), greatest()},
		{greatest(), 2, 2, lessOne, lessOne},
		{lessOne, 2, 2, greatest(), lessOne},
		{greatest(), full, full, greatest(), greatest()},
		{greatest(), full - 1, full, greatest(), wide.Wide{full - 1, full - 1, full - 1, full - 1}},
		{power(255), 2, 4, greatest(), power(254)},
		{power(255), 4, 8, power(254), power(254)},
		{power(255), 3, 2, greatest(), wide.Wide{0, 0, 0, half + half/2}},
		{power(255), full, half, greatest(), wide.Wide{0, 0, 0, full}},
		{power(192), full, 1, greatest(), wide.Wide{0, 0, 0, full}},
		{wide.Wide{full, full, full, 1}, half, half, greatest(), wide.Wide{full, full, full, 1}},
		{greatest(), 1 << 32, 1 << 33, greatest(), wide.Wide{full, full, full, half - 1}},
		{greatest(), 1 << 32, 1 << 33, wide.Wide{5}, wide.Wide{5}},
		// It does.
		{greatest(), 2, 1, greatest(), greatest()},
		{greatest(), 2, 1, lessOne, lessOne},
		{greatest(), full, 1, greatest(), greatest()},
		{greatest(), full, 1, wide.Wide{1}, wide.Wide{1}},
		{greatest(), full, full - 1, greatest(), greatest()},
		{power(255), 2, 1, greatest(), greatest()}, // 2^256: what is left of it is 0
		{power(255), 2, 1, wide.Wide{9}, wide.Wide{9}},
		{power(255), 4, 1, greatest(), greatest()},
		{power(192), half, 1, greatest(), power(255)},
		{power(193), half, 1, greatest(), greatest()},
		{power(193), half, 1, power(255), power(255)},
		{greatest(), 3, 2, greatest(), greatest()},
		// What would be left of it modulo 2^256, here 2, is less than the most.
		{wide.Wide{1, 0, 0, half}, 2, 1, greatest(), greatest()},
		{wide.Wide{1, 0, 0, half}, 2, 1, wide.Wide{3, 0, 7}, wide.Wide{3, 0, 7}},
		// The quotient times up is 2^256 - 1, and the rest makes it 2^256.
		{moreThirds, 3, 2, greatest(), greatest()},
		{moreThirds, 3, 2, wide.Wide{5}, wide.Wide{5}},
		// So it does just not.
		{thirds, 3, 2, greatest(), greatest()},
		{thirds, 3, 2, lessOne, lessOne},
		{lessThirds, 3, 2, greatest(), wide.Wide{full - 2, full, full, full}},
	} {
		mustScale(t, c.a, c.up, c.by, c.most, c.is, api.OK)
	}
}

func TestScaleOfWhatCantBe(t *testing.T) {
	for _, a := range []wide.Wide{{}, {1}, {100}, power(255), greatest()} {
		for _, up := range []uint64{0, 1, 3, half, full} {
			for _, most := range []wide.Wide{{1}, {70}, {0, 0, 0, 1}, greatest()} {
				mustScale(t, a, up, 0, most, wide.Wide{}, api.ErrZero)
			}
			for _, by := range []uint64{1, 4, half, full} {
				mustScale(t, a, up, by, wide.Wide{}, wide.Wide{}, api.ErrArg)
			}
			mustScale(t, a, up, 0, wide.Wide{}, wide.Wide{}, api.ErrZero) // both: the first of them
		}
	}
}

// scaled answers what Scale is to answer, by the library.
func scaled(a wide.Wide, up, by uint64, most wide.Wide) wide.Wide {
	b := new(big.Int).Mul(bigOf(a), new(big.Int).SetUint64(up))
	b.Quo(b, new(big.Int).SetUint64(by))
	switch {
	case b.Cmp(bigOf(most)) > 0:
		return most
	case b.Sign() == 0:
		return wide.Wide{1}
	}
	return wideOf(b)
}

// factors are those at an end, those of a chain's rules, and drawn ones of any size.
func factors() []uint64 {
	all := []uint64{0, 1, 2, 3, 4, 7, 600, 302400, 1209600, 4838400, 1<<32 - 1, 1 << 32, 1<<32 + 1, half - 1, half, half + 1, full - 1, full}
	rnd := rand.New(rand.NewSource(9))
	for range 8 {
		all = append(all, rnd.Uint64()>>rnd.Intn(64))
	}
	return all
}

func TestScaleIsTheLibrarys(t *testing.T) {
	rnd := rand.New(rand.NewSource(10))
	all := targets()
	for _, up := range factors() {
		for _, by := range factors() {
			if by == 0 {
				continue
			}
			for range 40 {
				a, most := all[rnd.Intn(len(all))], all[rnd.Intn(len(all))]
				mustScale(t, a, up, by, greatest(), scaled(a, up, by, greatest()), api.OK)
				if most != (wide.Wide{}) {
					mustScale(t, a, up, by, most, scaled(a, up, by, most), api.OK)
				}
			}
		}
	}
}

// Of every target's scaling, as the most: it, one less and one more.
func TestScaleAroundTheMost(t *testing.T) {
	one := big.NewInt(1)
	for i, a := range targets() {
		up, by := factors()[i%len(factors())], factors()[(i/7)%len(factors())]
		if by == 0 {
			by = full
		}
		most := scaled(a, up, by, greatest())
		mustScale(t, a, up, by, most, most, api.OK)
		if most != greatest() {
			mustScale(t, a, up, by, wideOf(new(big.Int).Add(bigOf(most), one)), most, api.OK)
		}
		if less := wideOf(new(big.Int).Sub(bigOf(most), one)); less != (wide.Wide{}) {
			mustScale(t, a, up, by, less, less, api.OK)
		}
	}
}

// P6.3

func TestEncodeOfWhatDecodeTellsDecodedIsIt(t *testing.T) {
	told := 0
	eachBits(func(exponent, sign, mantissa, bits uint32) {
		a, e := Decode(bits)
		if e != api.OK {
			return
		}
		told++
		again := Encode(a)
		mustDecode(t, again, a, api.OK)
		if again>>24 > exponent {
			t.Errorf("%#08x became %#08x, of a greater exponent", bits, again)
		}
		mustEncode(t, a, encoded(a))
	})
	if told < 1000 {
		t.Errorf("only %d were told", told)
	}
}

func TestEncodeOfWhatItToldIsTheSame(t *testing.T) {
	for _, a := range targets() {
		bits := Encode(a)
		if told, e := Decode(bits); e == api.OK {
			mustEncode(t, told, bits)
		} else if a != (wide.Wide{}) {
			t.Errorf("Encode of %#x: %#08x, that can't be", a, bits)
		}
	}
}

func TestALesserTargetHasNoLessWork(t *testing.T) {
	all := targets()
	slices.SortFunc(all, func(a, b wide.Wide) int { return bigOf(a).Cmp(bigOf(b)) })
	for i, a := range all[1:] {
		lesser := all[i]
		if bigOf(Work(lesser)).Cmp(bigOf(Work(a))) < 0 {
			t.Errorf("%#x has less work than %#x", lesser, a)
		}
		if Work(a) == (wide.Wide{}) {
			t.Errorf("%#x has no work", a)
		}
		if less, _ := a.Sub(wide.Of(1)); a != (wide.Wide{}) && bigOf(Work(less)).Cmp(bigOf(Work(a))) < 0 {
			t.Errorf("one less than %#x has less work", a)
		}
	}
}

func TestNothingHandedInIsChanged(t *testing.T) {
	for i, before := range targets() {
		a, most, h := before, before, hashOf(before)
		Encode(a)
		Work(a)
		Meets(h, a)
		Scale(a, uint64(i), full, most)
		Scale(a, full, 0, most)
		Scale(a, full, 1, most)
		if a != before || most != before || h != hashOf(before) {
			t.Fatalf("%#x became %#x, %#x, %#x", before, a, most, h)
		}
	}
}

func TestAnswersHangOnArgumentsAlone(t *testing.T) {
	for range 3 {
		a, e := Decode(0x1d00ffff)
		if e != api.OK {
			t.Error(e)
		}
		a[0] = 7 // an answer is one's own
		mustDecode(t, 0x1d00ffff, wide.Wide{0, 0, 0, 0xffff0000}, api.OK)
		mustDecode(t, 0xffffffff, wide.Wide{}, api.ErrTarget)
		mustEncode(t, wide.Wide{0x80}, 0x02008000)
		mustEncode(t, wide.Wide{}, 0)
		mustWork(t, wide.Wide{1}, power(255))
		most := wide.Wide{70}
		mustScale(t, wide.Wide{100}, 3, 4, most, wide.Wide{70}, api.OK)
		most = wide.Wide{71} // what was handed in isn't kept
		mustScale(t, wide.Wide{100}, 3, 4, most, wide.Wide{71}, api.OK)
		mustScale(t, wide.Wide{100}, 3, 0, most, wide.Wide{}, api.ErrZero)
		if !Meets(digest.Hash{0: 1}, wide.Wide{1}) || Meets(digest.Hash{0: 2}, wide.Wide{1}) {
			t.Error("Meets hangs on more")
		}
	}
}
