package digest

import (
	"bytes"
	"crypto/sha256"
	"encoding/hex"
	"math/rand"
	"slices"
	"strings"
	"testing"

	"pontage/api"
)

// unhex answers the bytes of a text of hexadecimal, the first byte first.
func unhex(t *testing.T, s string) []byte {
	t.Helper()
	b, err := hex.DecodeString(s)
	if err != nil {
		t.Fatal(err)
	}
	return b
}

// rising is a hash all of whose bytes differ: 0x01, 0x12, 0x23 .. 0xf0, 0x02 ..
func rising() Hash {
	var h Hash
	for i := range h {
		h[i] = byte(i<<4|(i+1)&15) + byte(i>>4)
	}
	return h
}

// noughts is the text of the hash of noughts.
func noughts() string {
	return strings.Repeat("0", 64)
}

// P2.1

// known are texts whose sums are written in the standard's examples, or known beside it.
func known() []struct{ text, sum string } {
	return []struct{ text, sum string }{
		{"", "e3b0c44298fc1c149afbf4c8996fb92427ae41e4649b934ca495991b7852b855"},
		{"a", "ca978112ca1bbdcafac231b39a23dc4da786eff8147c4e72b9807785afee48bb"},
		{"abc", "ba7816bf8f01cfea414140de5dae2223b00361a396177a9cb410ff61f20015ad"},
		{"hello", "2cf24dba5fb0a30e26e83b2ac5b9e29e1b161e5c1fa7425e73043362938b9824"},
		{"abcdbcdecdefdefgefghfghighijhijkijkljklmklmnlmnomnopnopq", "248d6a61d20638b8e5c026930c3e6039a33ce45964ff2167f6ecedd419db06c1"},
		{"abcdefghbcdefghicdefghijdefghijkefghijklfghijklmghijklmnhijklmnoijklmnopjklmnopqklmnopqrlmnopqrsmnopqrstnopqrstu", "cf5b16a778af8380036ce59e7b0492370b249b11e8f07a51afac45037afee9d1"},
		{strings.Repeat("a", 1000000), "cdc76e5c9914fb9281a1c7e284d73e67f1809a48a497200e046d39ccc7112cd0"},
	}
}

func TestSumOfKnownTexts(t *testing.T) {
	for _, c := range known() {
		if got := Sum([]byte(c.text)); !bytes.Equal(got[:], unhex(t, c.sum)) {
			t.Errorf("Sum of %d bytes %.20q: %x, want %s", len(c.text), c.text, got, c.sum)
		}
	}
}

// Lengths from 56 modulo 64 on make the filling take one block more.
func TestSumOfAllLengths(t *testing.T) {
	lengths := []int{511, 512, 513, 1000, 4096, 8191, 8192, 65535, 65536, 1<<20 + 55, 1<<20 + 56, 1<<21 + 1}
	for n := range 330 {
		lengths = append(lengths, n)
	}
	rnd := rand.New(rand.NewSource(1))
	b := make([]byte, slices.Max(lengths))
	for _, fill := range []func(){func() {}, func() { rnd.Read(b) }} {
		fill()
		for _, n := range lengths {
			if got, want := Sum(b[:n]), sha256.Sum256(b[:n]); got != Hash(want) {
				t.Errorf("Sum of %d bytes: %x, want %x", n, got, want)
			}
		}
	}
	full := bytes.Repeat([]byte{255}, 330)
	for n := range full {
		if got, want := Sum(full[:n]), sha256.Sum256(full[:n]); got != Hash(want) {
			t.Errorf("Sum of %d bytes of 255: %x, want %x", n, got, want)
		}
	}
}

// The number of bits has eight bytes, the highest first, also where four are too few.
func TestFillingEndsInTheNumberOfBits(t *testing.T) {
	for _, c := range []struct {
		length uint64
		want   string
	}{
		{0, "0000000000000000"},
		{1, "0000000000000008"},
		{0x12345, "0000000000091a28"},
		{1<<29 - 1, "00000000fffffff8"},
		{1 << 29, "0000000100000000"},
		{1<<31 - 1, "00000003fffffff8"},
	} {
		rest := bytes.Repeat([]byte{7}, int(c.length%64))
		got := filled(rest, c.length)
		want := append(slices.Clone(rest), 128)
		for len(want)%64 != 56 {
			want = append(want, 0)
		}
		want = append(want, unhex(t, c.want)...)
		if !bytes.Equal(got, want) {
			t.Errorf("filled at the length %d: %x, want %x", c.length, got, want)
		}
	}
}

func TestSumTakesEveryByte(t *testing.T) {
	for _, n := range []int{1, 55, 56, 63, 64, 65, 119, 120, 128} {
		b := make([]byte, n)
		plain := Sum(b)
		for i := range b {
			b[i] = 128
			if Sum(b) == plain {
				t.Errorf("Sum of %d bytes hangs not on byte %d", n, i)
			}
			b[i] = 0
		}
	}
}

func TestNothingIsOfOneKind(t *testing.T) {
	if Sum(nil) != Sum([]byte{}) || Double(nil) != Double([]byte{}) {
		t.Error("nil and no bytes differ")
	}
	if Sum(nil) == Sum([]byte{0}) || Sum([]byte{0}) == Sum([]byte{0, 0}) || Sum(nil) == Sum([]byte{128}) {
		t.Error("nothing has the sum of something")
	}
}

func TestDoubleOfKnownTexts(t *testing.T) {
	for _, c := range []struct{ text, sum string }{
		{"", "5df6e0e2761359d30a8275058e299fcc0381534545f55cf43e41983f5d4c9456"},
		{"abc", "4f8b42c22dd3729b519ba6f68d2da7cc5b2d606d05daed5ad5128cc03e6c6358"},
		{"hello", "9595c9df90075148eb06860365df33584b75bff782a510c6cd4883a419833d50"},
	} {
		if got := Double([]byte(c.text)); !bytes.Equal(got[:], unhex(t, c.sum)) {
			t.Errorf("Double of %q: %x, want %s", c.text, got, c.sum)
		}
	}
}

func TestDoubleIsTheSumOfTheSum(t *testing.T) {
	b := make([]byte, 300)
	rand.New(rand.NewSource(2)).Read(b)
	for n := range b {
		once := Sum(b[:n])
		want := sha256.Sum256(once[:])
		if got := Double(b[:n]); got != Hash(want) || got == once {
			t.Errorf("Double of %d bytes: %x, want %x", n, got, want)
		}
	}
}

// The hash of the chain's first header.
func TestTextOfTheFirstHeadersHash(t *testing.T) {
	first := "01000000" + noughts() +
		"3ba3edfd7a7b12b27ac72c3e67768f617fc81bc3888a51323a9fb8aa4b1e5e4a" +
		"29ab5f49" + "ffff001d" + "1dac2b7c"
	want := "000000000019d6689c085ae165831e934ff763ae46a2a6c172b3f1b60a8ce26f"
	if got := Double(unhex(t, first)).Text(); got != want {
		t.Errorf("Text: %s, want %s", got, want)
	}
}

func TestTextHasTheLastByteFirst(t *testing.T) {
	for _, c := range []struct {
		h    Hash
		want string
	}{
		{Hash{}, noughts()},
		{Hash{0: 1}, strings.Repeat("0", 63) + "1"},
		{Hash{0: 0xa0}, strings.Repeat("0", 62) + "a0"},
		{Hash{31: 0x0f}, "0f" + strings.Repeat("0", 62)},
		{Hash{31: 0x10}, "10" + strings.Repeat("0", 62)},
		{Hash{1: 0xbc, 30: 0xde}, "00de" + strings.Repeat("0", 56) + "bc00"},
		{Hash(bytes.Repeat([]byte{255}, 32)), strings.Repeat("f", 64)},
	} {
		if got := c.h.Text(); got != c.want {
			t.Errorf("Text of %x: %s, want %s", [32]byte(c.h), got, c.want)
		}
	}
}

func TestTextOfEveryByteAtEveryPlace(t *testing.T) {
	for at := range 32 {
		for x := range 256 {
			var h Hash
			h[at] = byte(x)
			last := slices.Clone(h[:])
			slices.Reverse(last)
			if got, want := h.Text(), hex.EncodeToString(last); got != want {
				t.Fatalf("Text with byte %d being %#x: %s, want %s", at, x, got, want)
			}
		}
	}
}

func TestParseReadsTheLastByteFirst(t *testing.T) {
	for _, c := range []struct {
		text string
		want Hash
	}{
		{noughts(), Hash{}},
		{strings.Repeat("0", 63) + "1", Hash{0: 1}},
		{"f" + strings.Repeat("0", 63), Hash{31: 0xf0}},
		{"0123456789abcdef" + strings.Repeat("0", 48), Hash{31: 0x01, 30: 0x23, 29: 0x45, 28: 0x67, 27: 0x89, 26: 0xab, 25: 0xcd, 24: 0xef}},
		{strings.Repeat("f", 64), Hash(bytes.Repeat([]byte{255}, 32))},
	} {
		if got, e := Parse(c.text); e != api.OK || got != c.want {
			t.Errorf("Parse of %s: %x, %d, want %x", c.text, [32]byte(got), int(e), [32]byte(c.want))
		}
	}
}

// mustBeRefused checks that a text isn't that of a hash.
func mustBeRefused(t *testing.T, text string) {
	t.Helper()
	if h, e := Parse(text); e != api.ErrForm || h != (Hash{}) {
		t.Errorf("Parse of %q: %x, %d, want nothing and ErrForm", text, [32]byte(h), int(e))
	}
}

func TestParseRefusesOtherLengths(t *testing.T) {
	good := rising().Text()
	long := strings.Repeat(good, 5)
	for n := range len(long) {
		if n != 64 {
			mustBeRefused(t, long[:n])
		}
	}
	mustBeRefused(t, noughts()[:63])
	mustBeRefused(t, noughts()+"0")
	for _, more := range []string{"0x", " ", "\n", "\x00", "é"} {
		mustBeRefused(t, more+good)
		mustBeRefused(t, good+more)
		mustBeRefused(t, more+good[len(more):])
		mustBeRefused(t, good[len(more):]+more)
	}
	mustBeRefused(t, strings.Repeat("é", 64))
	mustBeRefused(t, strings.Repeat("é", 32))
}

func TestParseRefusesOtherSigns(t *testing.T) {
	good := rising().Text()
	for at := range len(good) {
		for c := range 256 {
			text := []byte(good)
			text[at] = byte(c)
			if '0' <= c && c <= '9' || 'a' <= c && c <= 'f' {
				if h, e := Parse(string(text)); e != api.OK || h.Text() != string(text) {
					t.Fatalf("Parse of %q: %x, %d", text, [32]byte(h), int(e))
				}
				continue
			}
			mustBeRefused(t, string(text))
		}
	}
	mustBeRefused(t, strings.ToUpper(good))
	mustBeRefused(t, strings.Repeat("A", 64))
	mustBeRefused(t, strings.Repeat("g", 64))
}

func TestZero(t *testing.T) {
	if !(Hash{}).Zero() {
		t.Error("a hash of noughts isn't Zero")
	}
	for at := range 32 {
		for bit := range 8 {
			var h Hash
			h[at] = 1 << bit
			if h.Zero() {
				t.Errorf("Zero of %x", [32]byte(h))
			}
		}
	}
	if Sum(nil).Zero() || Double(nil).Zero() {
		t.Error("the sum of nothing is Zero")
	}
	if h, e := Parse(noughts()); e != api.OK || !h.Zero() {
		t.Errorf("Parse of noughts: %x, %d", [32]byte(h), int(e))
	}
}

// P2.2

func TestParseUndoesText(t *testing.T) {
	rnd := rand.New(rand.NewSource(3))
	hashes := []Hash{{}, rising(), Sum(nil), Hash(bytes.Repeat([]byte{255}, 32))}
	for range 2000 {
		var h Hash
		rnd.Read(h[:])
		hashes = append(hashes, h)
	}
	for _, h := range hashes {
		text := h.Text()
		got, e := Parse(text)
		if e != api.OK || got != h || got.Text() != text || len(text) != 64 {
			t.Fatalf("Parse of %s: %x, %d, want %x", text, [32]byte(got), int(e), [32]byte(h))
		}
	}
}

func TestSumNeitherChangesNorKeepsBytes(t *testing.T) {
	for n := range 200 {
		room := make([]byte, n+150)
		rand.New(rand.NewSource(int64(n))).Read(room)
		before := slices.Clone(room)
		sum, double := Sum(room[:n]), Double(room[:n])
		if !bytes.Equal(room, before) {
			t.Fatalf("the bytes or their spare room changed, at length %d", n)
		}
		if Sum(slices.Clip(room[:n])) != sum {
			t.Fatalf("spare room tells in Sum, at length %d", n)
		}
		clear(room)
		if Sum(before[:n]) != sum || Double(before[:n]) != double {
			t.Fatalf("bytes were kept, at length %d", n)
		}
	}
}

func TestAnswersAreNewMemory(t *testing.T) {
	first, second := Sum([]byte("abc")), Sum([]byte("abc"))
	clear(first[:])
	if second.Zero() || Sum([]byte("abc")) != second {
		t.Error("sums share memory")
	}
	h := rising()
	text := h.Text()
	if h != rising() {
		t.Error("Text changed the hash")
	}
	clear(h[:])
	if text != rising().Text() {
		t.Error("Text shares memory with the hash")
	}
}

func BenchmarkDouble(b *testing.B) {
	head := make([]byte, api.HeaderSize)
	for b.Loop() {
		Double(head)
	}
}
