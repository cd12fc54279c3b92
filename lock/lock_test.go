package lock

import (
	"bytes"
	"fmt"
	"math"
	"math/rand"
	"reflect"
	"slices"
	"testing"

	"pontage/api"
)

const (
	toAddressSize = 25 // of the bytes of a lock to an address
	filler        = 0xa5
)

// unlike is an address of unlike bytes, the first of which is as told.
func unlike(first byte) Address {
	var a Address
	for i := range a {
		a[i] = first + byte(i)
	}
	return a
}

// row answers so many unlike bytes, the first of which is as told.
func row(first byte, n int) []byte {
	b := make([]byte, n)
	for i := range b {
		b[i] = first + byte(i)
	}
	return b
}

// laidAddress answers the bytes of a lock to an address, byte for byte as the chapter has them.
func laidAddress(a Address) []byte {
	b := []byte{118, 169, 20}
	b = append(b, a[:]...)
	return append(b, 136, 172)
}

// laidTag answers 106, a length as told, and these bytes.
func laidTag(length byte, tag []byte) []byte {
	return append([]byte{106, length}, tag...)
}

// laid answers what Bytes is to answer.
func laid(l Lock) ([]byte, api.Errno) {
	if l.Kind != ToAddress && l.Kind != ToTag {
		return nil, api.ErrArg
	}
	if l.Kind == ToAddress {
		return laidAddress(l.Address), api.OK
	}
	if len(l.Tag) == 0 || len(l.Tag) > 40 {
		return nil, api.ErrLong
	}
	return laidTag(byte(len(l.Tag)), l.Tag), api.OK
}

// told answers what Parse is to answer: of all locks that could be it, the one that has these bytes.
func told(b []byte) Lock {
	if len(b) == toAddressSize {
		var a Address
		copy(a[:], b[3:])
		if bytes.Equal(b, laidAddress(a)) {
			return Lock{Kind: ToAddress, Address: a}
		}
	}
	for n := 1; n <= 40 && 2+n <= len(b); n++ {
		if tag := b[2 : 2+n]; bytes.Equal(b, laidTag(byte(n), tag)) {
			return Lock{Kind: ToTag, Tag: tag}
		}
	}
	return Lock{}
}

// opened answers what Opener is to answer.
func opened(key []byte) (Address, bool) {
	var a Address
	if len(key) == 21 {
		copy(a[:], key[1:])
	}
	if !bytes.Equal(key, append([]byte{20}, a[:]...)) {
		return Address{}, false
	}
	return a, true
}

// same tells whether two locks are one; nil and empty tags are.
func same(a, b Lock) bool {
	return a.Kind == b.Kind && a.Address == b.Address && bytes.Equal(a.Tag, b.Tag)
}

// mustBytes answers a lock's bytes.
func mustBytes(t *testing.T, l Lock) []byte {
	t.Helper()
	b, e := l.Bytes()
	if e != api.OK {
		t.Fatalf("%+v: %v", l, int(e))
	}
	return b
}

// mustOther looks that bytes are a lock of kind Other, without more.
func mustOther(t *testing.T, what string, b []byte) {
	t.Helper()
	if l := Parse(b); !reflect.DeepEqual(l, Lock{Kind: Other}) {
		t.Errorf("%s: %v is %+v", what, b, l)
	}
}

// mustOpenNothing looks that bytes are no key.
func mustOpenNothing(t *testing.T, what string, key []byte) {
	t.Helper()
	if a, ok := Opener(key); ok || a != (Address{}) {
		t.Errorf("%s: %v is a key of %v, %v", what, key, a, ok)
	}
}

// addresses are ordinary ones and such at an end.
func addresses() []Address {
	all := []Address{{}, unlike(1), unlike(128), unlike(236), {19: 1}, {0: 1}}
	for _, c := range []byte{255, 118, 169, 20, 136, 172, 106} { // the fixed bytes, where they mean nothing
		all = append(all, Address(bytes.Repeat([]byte{c}, 20)))
	}
	return all
}

// tags are of all lengths that there may be.
func tags() [][]byte {
	var all [][]byte
	for n := 1; n <= api.MaxTag; n++ {
		all = append(all, row(byte(n), n), make([]byte, n), bytes.Repeat([]byte{255}, n), bytes.Repeat([]byte{106}, n))
	}
	return append(all, laidAddress(unlike(9)), laidTag(2, []byte("hi")), Key(unlike(9)))
}

// rooms answers one list of bytes with spare room, and the whole of its memory.
func rooms(b []byte) ([]byte, []byte) {
	all := bytes.Repeat([]byte{filler}, len(b)+60)
	copy(all[30:], b)
	return all[30 : 30+len(b)], all
}

// P8.1

func TestBytesToAddress(t *testing.T) {
	known := []byte{118, 169, 20, 1, 2, 3, 4, 5, 6, 7, 8, 9, 10, 11, 12, 13, 14, 15, 16, 17, 18, 19, 20, 136, 172}
	if b := mustBytes(t, Lock{Kind: ToAddress, Address: unlike(1)}); !bytes.Equal(b, known) {
		t.Error(b)
	}
	for _, a := range addresses() {
		if b := mustBytes(t, Lock{Kind: ToAddress, Address: a}); !bytes.Equal(b, laidAddress(a)) {
			t.Error(a, b)
		}
	}
}

func TestBytesToTag(t *testing.T) {
	if b := mustBytes(t, Lock{Kind: ToTag, Tag: []byte("hi")}); !bytes.Equal(b, []byte{106, 2, 104, 105}) {
		t.Error(b)
	}
	if b := mustBytes(t, Lock{Kind: ToTag, Tag: []byte{7}}); !bytes.Equal(b, []byte{106, 1, 7}) {
		t.Error(b)
	}
	for _, tag := range tags() {
		if b := mustBytes(t, Lock{Kind: ToTag, Tag: tag}); !bytes.Equal(b, laidTag(byte(len(tag)), tag)) {
			t.Error(tag, b)
		}
	}
}

func TestBytesOfLengths(t *testing.T) {
	lengths := map[int]api.Errno{0: api.ErrLong, 1: api.OK, 2: api.OK, 39: api.OK, 40: api.OK, 41: api.ErrLong,
		42: api.ErrLong, 255: api.ErrLong, 256: api.ErrLong, 257: api.ErrLong, 296: api.ErrLong, 1 << 16: api.ErrLong, 1<<16 + 1: api.ErrLong}
	for n, asked := range lengths {
		b, e := Lock{Kind: ToTag, Tag: row(3, n)}.Bytes()
		if e != asked {
			t.Error(n, int(e))
		}
		if e != api.OK && b != nil {
			t.Error(n, "beside an error", b)
		}
	}
	for _, tag := range [][]byte{nil, {}, row(1, 9)[:0]} {
		if b, e := (Lock{Kind: ToTag, Tag: tag}).Bytes(); b != nil || e != api.ErrLong {
			t.Error(b, int(e))
		}
	}
}

func TestBytesOfOtherKinds(t *testing.T) {
	kinds := []Kind{Other, -1, ToTag + 1, Other - 1, 4, 106, 118, 255, 256, 257, 258, 1 << 32, 1<<32 + 1, 1<<32 + 2, math.MaxInt, math.MinInt, math.MinInt + 1}
	for _, k := range kinds {
		for _, l := range []Lock{{Kind: k}, {Kind: k, Address: unlike(1)}, {Kind: k, Tag: []byte("hi")}, {Kind: k, Address: unlike(1), Tag: row(1, 40)}} {
			if b, e := l.Bytes(); b != nil || e != api.ErrArg {
				t.Errorf("%+v: %v, %v", l, b, int(e))
			}
		}
	}
}

// Of a kind that is another one, and a tag that is too long or empty, the kind is named first.
func TestBytesOfSeveralFaults(t *testing.T) {
	for _, k := range []Kind{Other, -1, ToTag + 1, math.MaxInt, math.MinInt} {
		for _, n := range []int{0, 41, 1000} {
			if b, e := (Lock{Kind: k, Address: unlike(1), Tag: row(1, n)}).Bytes(); b != nil || e != api.ErrArg {
				t.Error(k, n, b, int(e))
			}
		}
	}
}

func TestBytesBesideTheOtherField(t *testing.T) {
	for _, n := range []int{0, 1, 2, 40, 41, 1000} {
		l := Lock{Kind: ToAddress, Address: unlike(1), Tag: row(1, n)}
		if b := mustBytes(t, l); !bytes.Equal(b, laidAddress(unlike(1))) {
			t.Error(n, b)
		}
	}
	if b := mustBytes(t, Lock{Kind: ToTag, Address: unlike(1), Tag: []byte("hi")}); !bytes.Equal(b, []byte{106, 2, 104, 105}) {
		t.Error(b)
	}
	for _, n := range []int{0, 41} {
		if b, e := (Lock{Kind: ToTag, Address: unlike(1), Tag: row(1, n)}).Bytes(); b != nil || e != api.ErrLong {
			t.Error(n, b, int(e))
		}
	}
}

func TestKinds(t *testing.T) {
	if Other != 0 || ToAddress != 1 || ToTag != 2 {
		t.Error(Other, ToAddress, ToTag)
	}
	if k := (Lock{}).Kind; k != Other {
		t.Error(k)
	}
}

func TestParseToAddress(t *testing.T) {
	for _, a := range addresses() {
		l := Parse(laidAddress(a))
		if l.Kind != ToAddress || l.Address != a || l.Tag != nil {
			t.Errorf("%v: %+v", a, l)
		}
	}
}

func TestParseToTag(t *testing.T) {
	l := Parse([]byte{106, 2, 104, 105})
	if l.Kind != ToTag || string(l.Tag) != "hi" || l.Address != (Address{}) {
		t.Errorf("%+v", l)
	}
	for _, tag := range tags() {
		l := Parse(laidTag(byte(len(tag)), tag))
		if l.Kind != ToTag || !bytes.Equal(l.Tag, tag) || l.Address != (Address{}) {
			t.Errorf("%v: %+v", tag, l)
		}
	}
}

func TestParseOfNothing(t *testing.T) {
	mustOther(t, "nil", nil)
	mustOther(t, "empty", []byte{})
	for c := range 256 {
		mustOther(t, "one byte", []byte{byte(c)})
		mustOther(t, "two bytes", []byte{106, byte(c)})
		mustOther(t, "two bytes", []byte{byte(c), 0})
	}
}

func TestParseOfOtherSizes(t *testing.T) {
	whole := laidAddress(unlike(1))
	for n := range whole {
		mustOther(t, "a beginning", whole[:n])
		mustOther(t, "an end", whole[n+1:])
		mustOther(t, "without one byte", slices.Delete(slices.Clone(whole), n, n+1))
		mustOther(t, "with one more", slices.Insert(slices.Clone(whole), n, 136))
	}
	for _, more := range [][]byte{{0}, {172}, {136, 172}, whole, make([]byte, 255), make([]byte, 5000)} {
		mustOther(t, "with more behind", slices.Concat(whole, more))
		mustOther(t, "with more ahead", slices.Concat(more, whole))
	}
	for _, n := range []int{0, 1, 18, 19, 21, 22, 40, 255} { // the ends are as they must be, with other addresses than of 20 bytes
		middle := row(1, n)
		mustOther(t, "a length of 20", slices.Concat([]byte{118, 169, 20}, middle, []byte{136, 172}))
		mustOther(t, "its own length", slices.Concat([]byte{118, 169, byte(n)}, middle, []byte{136, 172}))
	}
	mustOther(t, "the ends alone", []byte{118, 169, 136, 172})
	mustOther(t, "the ends alone", []byte{118, 169, 20, 136, 172})
}

func TestParseOfOtherFixedBytes(t *testing.T) {
	whole := laidAddress(unlike(1))
	fixed := []int{0, 1, 2, 23, 24}
	for _, i := range fixed {
		for c := range 256 {
			b := slices.Clone(whole)
			b[i] = byte(c)
			if b[i] != whole[i] {
				mustOther(t, "one byte changed", b)
			}
		}
	}
	for some := 1; some < 1<<len(fixed); some++ {
		b := slices.Clone(whole)
		for at, i := range fixed {
			if some>>at&1 == 1 {
				b[i] ^= 1
			}
		}
		mustOther(t, "several bytes changed", b)
	}
	for i := 3; i < 23; i++ { // none of the others is fixed
		b := slices.Clone(whole)
		b[i] ^= 255
		if l := Parse(b); l.Kind != ToAddress || !bytes.Equal(l.Address[:], b[3:23]) {
			t.Errorf("%v: %+v", b, l)
		}
	}
}

func TestParseOfOtherTags(t *testing.T) {
	mustOther(t, "no byte", laidTag(0, nil))
	mustOther(t, "a length of 0", laidTag(0, []byte{1}))
	mustOther(t, "a length of 41", laidTag(41, row(1, 41)))
	mustOther(t, "a length of 41", laidTag(41, row(1, 40)))
	mustOther(t, "a length of 40", laidTag(40, row(1, 41)))
	mustOther(t, "a length of 255", laidTag(255, row(1, 255)))
	mustOther(t, "the lowest byte of a length", laidTag(0, row(1, 256)))
	mustOther(t, "the lowest byte of a length", laidTag(1, row(1, 257)))
	mustOther(t, "the lowest byte of a length", laidTag(40, row(1, 296)))
	mustOther(t, "a tag with much behind it", slices.Concat(laidTag(2, []byte("hi")), make([]byte, 5000)))
	for _, tag := range tags() {
		n := byte(len(tag))
		mustOther(t, "one more", laidTag(n+1, tag))
		mustOther(t, "one fewer", laidTag(n-1, tag))
		mustOther(t, "one more byte", append(laidTag(n, tag), 0))
		mustOther(t, "one fewer byte", laidTag(n, tag[1:]))
		if tag[0] != n-1 { // a tag that begins as a key is one without it, too
			mustOther(t, "no length", append([]byte{106}, tag...))
		}
		for c := range 256 {
			b := laidTag(n, tag)
			b[0] = byte(c)
			if c != 106 {
				mustOther(t, "another first byte", b)
			}
		}
	}
	for n := range 300 {
		for length := range 256 {
			if length != n || n == 0 || n > 40 {
				mustOther(t, "another length", laidTag(byte(length), make([]byte, n)))
			}
		}
	}
}

func TestKey(t *testing.T) {
	known := []byte{20, 1, 2, 3, 4, 5, 6, 7, 8, 9, 10, 11, 12, 13, 14, 15, 16, 17, 18, 19, 20}
	if b := Key(unlike(1)); !bytes.Equal(b, known) {
		t.Error(b)
	}
	for _, a := range addresses() {
		if b := Key(a); len(b) != 21 || b[0] != 20 || !bytes.Equal(b[1:], a[:]) {
			t.Error(a, b)
		}
	}
}

func TestOpener(t *testing.T) {
	known := append([]byte{20}, row(1, 20)...)
	if a, ok := Opener(known); !ok || a != unlike(1) {
		t.Error(a, ok)
	}
	if a, ok := Opener(append([]byte{20}, make([]byte, 20)...)); !ok || a != (Address{}) {
		t.Error(a, ok)
	}
}

func TestOpenerOfOtherBytes(t *testing.T) {
	mustOpenNothing(t, "nil", nil)
	mustOpenNothing(t, "empty", []byte{})
	for size := range 64 {
		for length := range 256 {
			key := row(7, size)
			if size > 0 {
				key[0] = byte(length)
			}
			if size != 21 || length != 20 {
				mustOpenNothing(t, fmt.Sprint(size, " bytes, the first ", length), key)
			}
		}
	}
	mustOpenNothing(t, "long", append(Key(unlike(1)), make([]byte, 5000)...))
	mustOpenNothing(t, "two keys", append(Key(unlike(1)), Key(unlike(1))...))
	mustOpenNothing(t, "without its length", row(20, 20))
	mustOpenNothing(t, "a lock", laidAddress(unlike(1)))
}

// P8.2

func TestParseUndoesBytes(t *testing.T) {
	for _, a := range addresses() {
		l := Lock{Kind: ToAddress, Address: a}
		if got := Parse(mustBytes(t, l)); !same(got, l) {
			t.Errorf("%+v: %+v", l, got)
		}
		l.Tag = row(1, 41) // which the bytes don't tell
		if got := Parse(mustBytes(t, l)); !same(got, Lock{Kind: ToAddress, Address: a}) {
			t.Errorf("%+v: %+v", l, got)
		}
	}
	for _, tag := range tags() {
		l := Lock{Kind: ToTag, Tag: tag}
		if got := Parse(mustBytes(t, l)); !same(got, l) {
			t.Errorf("%+v: %+v", l, got)
		}
		l.Address = unlike(1)
		if got := Parse(mustBytes(t, l)); !same(got, Lock{Kind: ToTag, Tag: tag}) {
			t.Errorf("%+v: %+v", l, got)
		}
	}
}

// drawn answers bytes of all sorts: locks, keys, and such with a byte or a few changed, put in or left out.
func drawn(rnd *rand.Rand) []byte {
	var a Address
	rnd.Read(a[:])
	tag := make([]byte, rnd.Intn(44))
	rnd.Read(tag)
	b := [][]byte{laidAddress(a), laidTag(byte(len(tag)), tag), append([]byte{20}, a[:]...), tag}[rnd.Intn(4)]
	for range rnd.Intn(3) {
		at := rnd.Intn(len(b) + 1)
		if rnd.Intn(3) == 0 { // where the fixed bytes stand
			at = min(at, rnd.Intn(3))
		}
		c := []byte{118, 169, 20, 136, 172, 106, 19, 21, 0, byte(rnd.Intn(256))}[rnd.Intn(10)]
		switch {
		case rnd.Intn(3) == 0:
			b = slices.Insert(b, at, c)
		case at == len(b):
		case rnd.Intn(2) == 0:
			b = slices.Delete(b, at, at+1)
		default:
			b[at] = c
		}
	}
	return b
}

func TestDrawn(t *testing.T) {
	rnd := rand.New(rand.NewSource(8))
	seen := map[Kind]int{}
	keys := 0
	for range 40000 {
		b := drawn(rnd)
		l := Parse(b)
		seen[l.Kind]++
		if !same(l, told(b)) {
			t.Fatalf("%v: %+v", b, l)
		}
		again, e := l.Bytes()
		if l.Kind == Other {
			if again != nil || e != api.ErrArg {
				t.Fatalf("%v: %v, %v", b, again, int(e))
			}
		} else if e != api.OK || !bytes.Equal(again, b) {
			t.Fatalf("%v: %v, %v", b, again, int(e))
		}
		a, ok := Opener(b)
		asked, is := opened(b)
		if a != asked || ok != is {
			t.Fatalf("%v: %v, %v", b, a, ok)
		}
		if ok {
			keys++
			if !bytes.Equal(Key(a), b) {
				t.Fatal(b, Key(a))
			}
		}
	}
	if seen[Other] < 1000 || seen[ToAddress] < 1000 || seen[ToTag] < 1000 || keys < 1000 || len(seen) != 3 {
		t.Error("too few of a sort:", seen, keys)
	}
}

func TestDrawnLocks(t *testing.T) {
	rnd := rand.New(rand.NewSource(80))
	for range 20000 {
		l := Lock{Kind: Kind(rnd.Intn(5) - 1)}
		if rnd.Intn(2) == 0 {
			rnd.Read(l.Address[:])
		}
		if n := rnd.Intn(46); n < 44 {
			l.Tag = make([]byte, n)
			rnd.Read(l.Tag)
		}
		b, e := l.Bytes()
		asked, fault := laid(l)
		if e != fault || !bytes.Equal(b, asked) || (e != api.OK && b != nil) {
			t.Fatalf("%+v: %v, %v", l, b, int(e))
		}
	}
}

func TestOpenerUndoesKey(t *testing.T) {
	all := addresses()
	rnd := rand.New(rand.NewSource(88))
	for range 1000 {
		var a Address
		rnd.Read(a[:])
		all = append(all, a)
	}
	for _, a := range all {
		if got, ok := Opener(Key(a)); !ok || got != a {
			t.Error(a, got, ok)
		}
	}
}

func TestNothingHandedInIsChanged(t *testing.T) {
	handed := [][]byte{nil, laidAddress(unlike(1)), laidTag(40, row(1, 40)), laidTag(41, row(1, 41)), laidTag(0, nil), Key(unlike(1)), row(1, 21), []byte("hi")}
	for _, b := range handed {
		part, all := rooms(b)
		ahead := slices.Clone(all)
		Parse(part)
		Opener(part)
		for k := Other - 1; k <= ToTag+1; k++ {
			l := Lock{Kind: k, Address: unlike(1), Tag: part}
			l.Bytes()
			if l.Kind != k || l.Address != unlike(1) || len(l.Tag) != len(part) {
				t.Errorf("%+v", l)
			}
		}
		if !bytes.Equal(all, ahead) {
			t.Error(b, "became", all)
		}
	}
}

func TestNothingHandedInIsKept(t *testing.T) {
	tag := []byte("hi")
	l := Lock{Kind: ToTag, Tag: tag}
	b := mustBytes(t, l)
	tag[0] = 'o'
	if !bytes.Equal(b, []byte{106, 2, 104, 105}) {
		t.Error("changed in the lock, the bytes became", b)
	}
	parsed := Parse(b)
	b[2] = 'o'
	if string(parsed.Tag) != "hi" {
		t.Error("changed in the bytes, the tag became", parsed.Tag)
	}
	parsed.Tag[1] = 'o'
	if !bytes.Equal(b, []byte{106, 2, 'o', 105}) {
		t.Error("changed in the tag, the bytes became", b)
	}
	to := Lock{Kind: ToAddress, Address: unlike(1)}
	b = mustBytes(t, to)
	to.Address[0] = 99
	parsed = Parse(b)
	b[3] = 77
	if parsed.Address != unlike(1) || to.Address[0] != 99 {
		t.Error(parsed, to)
	}
	a := unlike(1)
	key := Key(a)
	a[0] = 99
	opener, _ := Opener(key)
	key[1] = 77
	if opener != unlike(1) || a[0] != 99 {
		t.Error(opener, a)
	}
}

// fill overwrites a list and its spare room.
func fill(b []byte) {
	b = b[:cap(b)]
	for i := range b {
		b[i] = filler
	}
}

func TestAnswersShareNoMemory(t *testing.T) {
	for _, l := range []Lock{{Kind: ToAddress, Address: unlike(1)}, {Kind: ToTag, Tag: []byte("hi")}, {Kind: ToTag, Tag: row(1, 40)}} {
		one, other := mustBytes(t, l), mustBytes(t, l)
		part, all := rooms(other)
		ahead := slices.Clone(all)
		first, second := Parse(part), Parse(part)
		fill(one)
		fill(first.Tag)
		asked, _ := laid(l)
		if !bytes.Equal(other, asked) || !same(second, l) || !bytes.Equal(all, ahead) {
			t.Error(other, second, all)
		}
		if again := mustBytes(t, l); !bytes.Equal(again, asked) {
			t.Error(again)
		}
	}
	one, other := Key(unlike(1)), Key(unlike(1))
	fill(one)
	if again := Key(unlike(1)); !bytes.Equal(other, again) || !bytes.Equal(other[1:], row(1, 20)) {
		t.Error(other, again)
	}
	l := Lock{Kind: ToTag, Tag: make([]byte, 2, 90)} // a lock with spare room, which the bytes don't use
	fill(mustBytes(t, l))
	if spare := l.Tag[:90]; !bytes.Equal(spare, make([]byte, 90)) {
		t.Error(spare)
	}
}

func TestAnswersHangOnArgumentsAlone(t *testing.T) {
	lists := [][]byte{laidAddress(unlike(1)), laidTag(2, []byte("hi")), {1}, Key(unlike(3)), nil, laidTag(2, []byte("ho")), laidAddress(unlike(2)), Key(unlike(4))}
	for _, b := range lists {
		first := Parse(b)
		a, ok := Opener(b)
		for _, between := range lists {
			Parse(between)
			Opener(between)
			first.Bytes()
			Key(unlike(5))
		}
		again := Parse(b)
		twice, still := Opener(b)
		if !same(first, again) || a != twice || ok != still {
			t.Errorf("%v: %+v, then %+v", b, first, again)
		}
	}
}
