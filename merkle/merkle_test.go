package merkle

import (
	"crypto/sha256"
	"encoding/binary"
	"encoding/hex"
	"fmt"
	"math"
	"math/rand"
	"slices"
	"testing"

	"pontage/api"
	"pontage/digest"
)

const most = 65536 // of hashes

// leaf answers the hash of a number, unlike that of any other.
func leaf(i int) digest.Hash {
	return sha256.Sum256(binary.LittleEndian.AppendUint64([]byte("leaf"), uint64(i)))
}

// leaves answers so many unlike hashes.
func leaves(n int) []digest.Hash {
	l := make([]digest.Hash, n)
	for i := range l {
		l[i] = leaf(i)
	}
	return l
}

// pair answers the library's double sum of two hashes, one behind the other.
func pair(a, b digest.Hash) digest.Hash {
	once := sha256.Sum256(append(a[:], b[:]...))
	return sha256.Sum256(once[:])
}

// laid answers what a text tells: a sign from 0 on is that hash of a list, and two between brackets are put together.
func laid(t *testing.T, l []digest.Hash, text string) digest.Hash {
	t.Helper()
	var open []digest.Hash
	for _, c := range text {
		switch {
		case c == '(':
		case c == ')' && len(open) >= 2:
			both := pair(open[len(open)-2], open[len(open)-1])
			open = append(open[:len(open)-2], both)
		case c >= '0' && int(c-'0') < len(l):
			open = append(open, l[c-'0'])
		default:
			t.Fatalf("%s: a wrong text", text)
		}
	}
	if len(open) != 1 {
		t.Fatalf("%s: a wrong text", text)
	}
	return open[0]
}

// allRows answers all rows of hashes, from the lowest one up to the root, as the chapter has them.
func allRows(l []digest.Hash) [][]digest.Hash {
	rows := [][]digest.Hash{l}
	for len(l) > 1 {
		var up []digest.Hash
		for i := 0; i < len(l); i += 2 {
			if i+1 < len(l) {
				up = append(up, pair(l[i], l[i+1]))
			} else {
				up = append(up, pair(l[i], l[i]))
			}
		}
		rows = append(rows, up)
		l = up
	}
	return rows
}

// wayIn answers the way of the i-th through rows.
func wayIn(rows [][]digest.Hash, i int) []digest.Hash {
	var way []digest.Hash
	for _, row := range rows[:len(rows)-1] {
		switch {
		case i%2 == 1:
			way = append(way, row[i-1])
		case i+1 < len(row):
			way = append(way, row[i+1])
		default:
			way = append(way, row[i])
		}
		i /= 2
	}
	return way
}

// widths answers how many stand in each row below the root.
func widths(n int) []int {
	var w []int
	for n > 1 {
		w = append(w, n)
		n = n/2 + n%2
	}
	return w
}

// climbed answers what Climb is to answer.
func climbed(h digest.Hash, i, n int, way []digest.Hash) (digest.Hash, api.Errno) {
	if n < 1 || n > most || i < 0 || i > n-1 {
		return digest.Hash{}, api.ErrArg
	}
	w := widths(n)
	if len(way) != len(w) {
		return digest.Hash{}, api.ErrProof
	}
	for row, width := range w {
		last := i == width-1 && width%2 == 1
		if last && way[row] != h || !last && way[row] == h {
			return digest.Hash{}, api.ErrProof
		}
		if i%2 == 1 {
			h = pair(way[row], h)
		} else {
			h = pair(h, way[row])
		}
		i /= 2
	}
	return h, api.OK
}

// changed answers a hash with one bit changed.
func changed(h digest.Hash, bit int) digest.Hash {
	h[bit/8] ^= 1 << (bit % 8)
	return h
}

// told is a text of a hash.
func told(h digest.Hash) string {
	return hex.EncodeToString(h[:4])
}

// mustRoot answers the root of hashes.
func mustRoot(t *testing.T, l []digest.Hash) digest.Hash {
	t.Helper()
	root, e := Root(l)
	if e != api.OK {
		t.Fatalf("Root of %d: %d", len(l), int(e))
	}
	return root
}

// mustWay answers the way of the i-th.
func mustWay(t *testing.T, l []digest.Hash, i int) []digest.Hash {
	t.Helper()
	way, e := Way(l, i)
	if e != api.OK {
		t.Fatalf("Way of the %d-th of %d: %d", i, len(l), int(e))
	}
	return way
}

// mustNoRoot looks that hashes have no root.
func mustNoRoot(t *testing.T, l []digest.Hash, want api.Errno) {
	t.Helper()
	if root, e := Root(l); e != want || root != (digest.Hash{}) {
		t.Errorf("Root of %d: %s, %d, want noughts, %d", len(l), told(root), int(e), int(want))
	}
}

// mustNoWay looks that there is no way of the i-th.
func mustNoWay(t *testing.T, l []digest.Hash, i int, want api.Errno) {
	t.Helper()
	if way, e := Way(l, i); e != want || way != nil {
		t.Errorf("Way of the %d-th of %d: %d hashes, %d, want none, %d", i, len(l), len(way), int(e), int(want))
	}
}

// mustClimb looks that Climb and Check answer what they are to answer.
func mustClimb(t *testing.T, what string, h digest.Hash, i, n int, way []digest.Hash) {
	t.Helper()
	want, fault := climbed(h, i, n, way)
	if fault != api.OK {
		mustRefuse(t, what, h, i, n, way, fault)
		return
	}
	if got, e := Climb(h, i, n, way); e != api.OK || got != want {
		t.Errorf("%s: Climb of the %d-th of %d: %s, %d, want %s", what, i, n, told(got), int(e), told(want))
	}
	if !Check(want, h, i, n, way) {
		t.Errorf("%s: Check of the %d-th of %d: false", what, i, n)
	}
	for _, bit := range []int{0, 7, 8, 100, 248, 255} {
		if Check(changed(want, bit), h, i, n, way) {
			t.Errorf("%s: Check of the %d-th of %d: true, with another bit %d in the root", what, i, n, bit)
		}
	}
	if Check(digest.Hash{}, h, i, n, way) {
		t.Errorf("%s: Check of the %d-th of %d: true, with a root of noughts", what, i, n)
	}
}

// mustRefuse looks that Climb answers an error and nothing else, and Check false, whatever the root.
func mustRefuse(t *testing.T, what string, h digest.Hash, i, n int, way []digest.Hash, want api.Errno) {
	t.Helper()
	if got, e := Climb(h, i, n, way); e != want || got != (digest.Hash{}) {
		t.Errorf("%s: Climb of the %d-th of %d, a way of %d: %s, %d, want noughts, %d", what, i, n, len(way), told(got), int(e), int(want))
	}
	roots := []digest.Hash{{}, h, pair(h, h)}
	if len(way) > 0 {
		last := way[len(way)-1]
		roots = append(roots, last, pair(h, way[0]), pair(way[0], h), pair(last, last))
	}
	roots = append(roots, careless(h, i, way))
	for _, root := range roots {
		if Check(root, h, i, n, way) {
			t.Errorf("%s: Check of the %d-th of %d, a way of %d: true, with %s", what, i, n, len(way), told(root))
		}
	}
}

// careless answers what a hash and a way make where nobody looks at the defences.
func careless(h digest.Hash, i int, way []digest.Hash) digest.Hash {
	for _, other := range way {
		if i%2 == 0 {
			h = pair(h, other)
		} else {
			h = pair(other, h)
		}
		i /= 2
	}
	return h
}

// trees are the roots of few hashes, laid by hand.
func trees() []string {
	return []string{
		"0",
		"(01)",
		"((01)(22))",
		"((01)(23))",
		"(((01)(23))((44)(44)))",
		"(((01)(23))((45)(45)))",
		"(((01)(23))((45)(66)))",
		"(((01)(23))((45)(67)))",
		"((((01)(23))((45)(67)))(((88)(88))((88)(88))))",
	}
}

// ways are those of few hashes, laid by hand: of one hash, of two, and so on.
func ways() [][][]string {
	all4 := "((01)(23))"
	all8 := "(((01)(23))((45)(67)))"
	end9 := "(((88)(88))((88)(88)))"
	return [][][]string{
		{{}},
		{{"1"}, {"0"}},
		{{"1", "(22)"}, {"0", "(22)"}, {"2", "(01)"}},
		{{"1", "(23)"}, {"0", "(23)"}, {"3", "(01)"}, {"2", "(01)"}},
		{
			{"1", "(23)", "((44)(44))"}, {"0", "(23)", "((44)(44))"}, {"3", "(01)", "((44)(44))"}, {"2", "(01)", "((44)(44))"},
			{"4", "(44)", all4},
		},
		{
			{"1", "(23)", "((45)(45))"}, {"0", "(23)", "((45)(45))"}, {"3", "(01)", "((45)(45))"}, {"2", "(01)", "((45)(45))"},
			{"5", "(45)", all4}, {"4", "(45)", all4},
		},
		{
			{"1", "(23)", "((45)(66))"}, {"0", "(23)", "((45)(66))"}, {"3", "(01)", "((45)(66))"}, {"2", "(01)", "((45)(66))"},
			{"5", "(66)", all4}, {"4", "(66)", all4}, {"6", "(45)", all4},
		},
		{
			{"1", "(23)", "((45)(67))"}, {"0", "(23)", "((45)(67))"}, {"3", "(01)", "((45)(67))"}, {"2", "(01)", "((45)(67))"},
			{"5", "(67)", all4}, {"4", "(67)", all4}, {"7", "(45)", all4}, {"6", "(45)", all4},
		},
		{
			{"1", "(23)", "((45)(67))", end9}, {"0", "(23)", "((45)(67))", end9}, {"3", "(01)", "((45)(67))", end9}, {"2", "(01)", "((45)(67))", end9},
			{"5", "(67)", all4, end9}, {"4", "(67)", all4, end9}, {"7", "(45)", all4, end9}, {"6", "(45)", all4, end9},
			{"8", "(88)", "((88)(88))", all8},
		},
	}
}

// bounds are numbers of hashes at which rows begin to be, or to be odd, at one height or another.
func bounds() []int {
	var l []int
	for row := range 9 {
		l = append(l, 1<<row, 3<<row, 5<<row, 1<<row+1, 1<<row-1, 1<<row+2)
	}
	slices.Sort(l)
	return slices.DeleteFunc(slices.Compact(l), func(n int) bool { return n < 1 || n > 600 })
}

// P10.1

func TestExample(t *testing.T) {
	for _, h := range []digest.Hash{leaf(0), {}, {31: 1}} {
		l := []digest.Hash{h}
		if root := mustRoot(t, l); root != h {
			t.Errorf("Root: %s", told(root))
		}
		if way := mustWay(t, l, 0); len(way) != 0 {
			t.Errorf("Way: %d", len(way))
		}
		if top, e := Climb(h, 0, 1, nil); e != api.OK || top != h {
			t.Errorf("Climb: %s, %d", told(top), int(e))
		}
		if top, e := Climb(h, 0, 1, []digest.Hash{}); e != api.OK || top != h {
			t.Errorf("Climb by an empty way: %s, %d", told(top), int(e))
		}
		if !Check(h, h, 0, 1, nil) || Check(changed(h, 9), h, 0, 1, nil) || Check(h, changed(h, 9), 0, 1, nil) {
			t.Error("Check")
		}
	}
}

func TestRootsLaidByHand(t *testing.T) {
	l := leaves(9)
	for i, text := range trees() {
		if got, want := mustRoot(t, l[:i+1]), laid(t, l, text); got != want {
			t.Errorf("Root of %d: %s, want %s", i+1, told(got), told(want))
		}
	}
}

func TestWaysLaidByHand(t *testing.T) {
	l := leaves(9)
	for n, all := range ways() {
		n++
		if len(all) != n {
			t.Fatal(n)
		}
		root := laid(t, l, trees()[n-1])
		for i, texts := range all {
			var want []digest.Hash
			for _, text := range texts {
				want = append(want, laid(t, l, text))
			}
			if got := mustWay(t, l[:n], i); !slices.Equal(got, want) {
				t.Errorf("Way of the %d-th of %d isn't %v", i, n, texts)
			}
			if top, e := Climb(l[i], i, n, want); e != api.OK || top != root {
				t.Errorf("Climb of the %d-th of %d by %v: %s, %d", i, n, texts, told(top), int(e))
			}
			if !Check(root, l[i], i, n, want) {
				t.Errorf("Check of the %d-th of %d by %v: false", i, n, texts)
			}
		}
	}
}

func TestBlocksOfTheChain(t *testing.T) {
	for _, texts := range [][]string{
		{ // of the first block
			"4a5e1e4baab89f3a32518a88c31bc87f618f76673e2cc77ab2127b7afdeda33b",
			"4a5e1e4baab89f3a32518a88c31bc87f618f76673e2cc77ab2127b7afdeda33b",
		},
		{ // of the first one with two transactions
			"7dac2c5666815c17a3b36427de37bb9d2e2c5ccec3f8633eb91a4205cb4c10ff",
			"b1fea52486ce0c62bb442b530a3f0132b826c74e473d1f2c220bfa78111c5082",
			"f4184fc596403b9d638783cf57adfe4c75c605f6356fbc91338530e9831e9e16",
		},
		{ // of the hundred thousandth
			"f3e94742aca4b5ef85488dc37c06c3282295ffec960994b2c0d5ac2a25a95766",
			"8c14f0db3df150123e6f3dbbf30f8b955a8249b62ac1d1ff16284aefa3d06d87",
			"fff2525b8931402dd09222c50775608f75787bd2b87e56995a7bdd30f79702c4",
			"6359f0868171b1d194cbee1af2f16ea598ae8fad666d9b012c8ed2b79a236ec4",
			"e9a66845e05d5abc0ad04ec80f774a7e585c6e8db975962d069a522137b80c1d",
		},
	} {
		var l []digest.Hash
		for _, text := range texts {
			h, e := digest.Parse(text)
			if e != api.OK {
				t.Fatal(text)
			}
			l = append(l, h)
		}
		root, l := l[0], l[1:]
		if got := mustRoot(t, l); got != root {
			t.Errorf("%s, want %s", got.Text(), texts[0])
		}
		for i, h := range l {
			if !Check(root, h, i, len(l), mustWay(t, l, i)) {
				t.Errorf("the %d-th below %s", i, texts[0])
			}
		}
	}
}

func TestRootsAndWaysOfManyNumbers(t *testing.T) {
	l := leaves(600)
	for _, n := range append(bounds(), 11, 13, 14, 21, 22, 23, 25, 37, 41, 43, 51, 85, 86, 171, 341, 598) {
		rows := allRows(l[:n])
		if root := mustRoot(t, l[:n]); root != rows[len(rows)-1][0] {
			t.Errorf("Root of %d: %s", n, told(root))
		}
		for i := range n {
			if way := mustWay(t, l[:n], i); !slices.Equal(way, wayIn(rows, i)) {
				t.Errorf("Way of the %d-th of %d", i, n)
			}
		}
	}
}

func TestOddRowsAtEachHeight(t *testing.T) {
	for height := range 7 {
		n := 3 << height // only the row of this height is odd
		l := leaves(n)
		last := mustWay(t, l, n-1)
		whole := allRows(l[2<<height:])
		self := whole[len(whole)-1][0]
		for row, h := range last {
			if want := wayIn(allRows(l), n-1)[row]; h != want || (h == self) != (row == height) {
				t.Errorf("%d: the row %d of the last one's way: %s, want %s", n, row, told(h), told(want))
			}
		}
		if !Check(mustRoot(t, l), l[n-1], n-1, n, last) {
			t.Errorf("%d: Check of the last one: false", n)
		}
		odd := 1<<(height+1) + 1 // all rows but the last one are odd
		l = leaves(odd)
		h := l[odd-1]
		for row, got := range mustWay(t, l, odd-1)[:height+1] {
			if got != h {
				t.Errorf("%d: the row %d of the last one's way isn't itself", odd, row)
			}
			h = pair(h, h)
		}
	}
}

func TestMostHashes(t *testing.T) {
	l := leaves(2*most + 1)
	for _, n := range []int{most - 1, most, most/2 + 1} {
		rows := allRows(l[:n])
		root := mustRoot(t, l[:n])
		if root != rows[16][0] || len(rows) != 17 {
			t.Errorf("Root of %d: %s", n, told(root))
		}
		for _, i := range []int{0, 1, 2, n/2 - 1, n / 2, n - 3, n - 2, n - 1} {
			way := mustWay(t, l[:n], i)
			if !slices.Equal(way, wayIn(rows, i)) {
				t.Errorf("Way of the %d-th of %d", i, n)
			}
			if !Check(root, l[i], i, n, way) || Check(root, l[n], i, n, way) {
				t.Errorf("Check of the %d-th of %d", i, n)
			}
		}
		for _, i := range []int{-1, n, n + 1, math.MinInt, math.MaxInt} {
			mustNoWay(t, l[:n], i, api.ErrArg)
		}
	}
	for _, n := range []int{most + 1, most + 2, 2 * most, 2*most + 1} {
		mustNoRoot(t, l[:n], api.ErrLong)
		for _, i := range []int{0, 1, most - 1, most, n - 1} {
			mustNoWay(t, l[:n], i, api.ErrLong)
		}
	}
}

func TestNoHashes(t *testing.T) {
	for _, l := range [][]digest.Hash{nil, {}, leaves(3)[:0], leaves(3)[3:]} {
		mustNoRoot(t, l, api.ErrFew)
		for _, i := range []int{0, 1, -1, math.MinInt, math.MaxInt} { // that there are none goes ahead of a wrong place
			mustNoWay(t, l, i, api.ErrFew)
		}
	}
}

func TestNoSuchPlace(t *testing.T) {
	l := leaves(40)
	for n := 1; n <= len(l); n++ {
		for _, i := range []int{-1, -2, -n, n, n + 1, 2 * n, 1 << 16, math.MinInt, math.MinInt + 1, math.MaxInt - 1, math.MaxInt} {
			mustNoWay(t, l[:n], i, api.ErrArg)
		}
		for _, i := range []int{0, n - 1} {
			mustWay(t, l[:n], i)
		}
	}
	mustNoWay(t, l[:7:7], 7, api.ErrArg)
	mustNoWay(t, l[:7], 7, api.ErrArg) // in the spare room there is no 7th
}

func TestTooManyGoesAheadOfAWrongPlace(t *testing.T) {
	l := leaves(most + 2)
	for _, n := range []int{most + 1, most + 2} {
		for _, i := range []int{-1, n, n + 1, math.MinInt, math.MaxInt} {
			mustNoWay(t, l[:n], i, api.ErrLong)
		}
	}
}

func TestRows(t *testing.T) {
	for n, want := range map[int]int{
		math.MinInt: 0, math.MinInt + 1: 0, -most: 0, -2: 0, -1: 0, 0: 0,
		1: 0, 2: 1, 3: 2, 4: 2, 5: 3, 6: 3, 7: 3, 8: 3, 9: 4, 16: 4, 17: 5, 32: 5, 33: 6,
		256: 8, 257: 9, 32768: 15, 32769: 16, most - 1: 16, most: 16,
		most + 1: 0, most + 2: 0, 2 * most: 0, 1 << 32: 0, 1<<32 + 2: 0, math.MaxInt - 1: 0, math.MaxInt: 0,
	} {
		if got := Rows(n); got != want {
			t.Errorf("Rows(%d): %d, want %d", n, got, want)
		}
	}
	for n := range most + 100 {
		want := len(widths(n))
		if n > most {
			want = 0
		}
		if got := Rows(n); got != want {
			t.Errorf("Rows(%d): %d, want %d", n, got, want)
		}
	}
}

func TestRowsOfWays(t *testing.T) {
	l := leaves(130)
	for n := 1; n <= len(l); n++ {
		for _, i := range []int{0, n / 2, n - 1} {
			if way := mustWay(t, l[:n], i); len(way) != Rows(n) {
				t.Errorf("the way of the %d-th of %d: %d, want %d", i, n, len(way), Rows(n))
			}
		}
	}
}

func TestRootsOfLikeHashes(t *testing.T) {
	a, b, c := leaf(1), leaf(2), leaf(3)
	for what, one := range map[string]struct {
		l    []digest.Hash
		root digest.Hash
	}{
		"two":             {[]digest.Hash{a, a}, pair(a, a)},
		"two of three":    {[]digest.Hash{a, a, b}, pair(pair(a, a), pair(b, b))},
		"the other two":   {[]digest.Hash{a, b, b}, pair(pair(a, b), pair(b, b))},
		"apart":           {[]digest.Hash{a, b, a}, pair(pair(a, b), pair(a, a))},
		"the last twice":  {[]digest.Hash{a, b, c, c}, pair(pair(a, b), pair(c, c))},
		"three":           {[]digest.Hash{a, a, a}, pair(pair(a, a), pair(a, a))},
		"four":            {[]digest.Hash{a, a, a, a}, pair(pair(a, a), pair(a, a))},
		"pairs":           {[]digest.Hash{a, b, a, b}, pair(pair(a, b), pair(a, b))},
		"of noughts":      {[]digest.Hash{{}, {}}, pair(digest.Hash{}, digest.Hash{})},
		"noughts at last": {[]digest.Hash{a, b, {}}, pair(pair(a, b), pair(digest.Hash{}, digest.Hash{}))},
	} {
		if root := mustRoot(t, one.l); root != one.root {
			t.Errorf("%s: %s, want %s", what, told(root), told(one.root))
		}
		for i := range one.l {
			if way := mustWay(t, one.l, i); !slices.Equal(way, wayIn(allRows(one.l), i)) {
				t.Errorf("%s: the way of the %d-th", what, i)
			}
		}
	}
	if mustRoot(t, []digest.Hash{a, b}) == mustRoot(t, []digest.Hash{b, a}) {
		t.Error("the order is all one")
	}
}

// P10.2

func TestClimbByHand(t *testing.T) {
	h, x, y, z := leaf(0), leaf(1), leaf(2), leaf(3)
	for _, one := range []struct {
		i, n int
		way  []digest.Hash
		want digest.Hash
	}{
		{0, 1, nil, h},
		{0, 2, []digest.Hash{x}, pair(h, x)},
		{1, 2, []digest.Hash{x}, pair(x, h)},
		{0, 3, []digest.Hash{x, y}, pair(pair(h, x), y)},
		{1, 3, []digest.Hash{x, y}, pair(pair(x, h), y)},
		{2, 3, []digest.Hash{h, y}, pair(y, pair(h, h))},
		{0, 4, []digest.Hash{x, y}, pair(pair(h, x), y)},
		{1, 4, []digest.Hash{x, y}, pair(pair(x, h), y)},
		{2, 4, []digest.Hash{x, y}, pair(y, pair(h, x))},
		{3, 4, []digest.Hash{x, y}, pair(y, pair(x, h))},
		{3, 5, []digest.Hash{x, y, z}, pair(pair(y, pair(x, h)), z)},
		{4, 5, []digest.Hash{h, pair(h, h), z}, pair(z, pair(pair(h, h), pair(h, h)))},
		{4, 6, []digest.Hash{x, pair(h, x), z}, pair(z, pair(pair(h, x), pair(h, x)))},
		{5, 6, []digest.Hash{x, pair(x, h), z}, pair(z, pair(pair(x, h), pair(x, h)))},
		{4, 7, []digest.Hash{x, y, z}, pair(z, pair(pair(h, x), y))},
		{6, 7, []digest.Hash{h, y, z}, pair(z, pair(y, pair(h, h)))},
		{7, 8, []digest.Hash{x, y, z}, pair(z, pair(y, pair(x, h)))},
		{0, 8, []digest.Hash{x, x, x}, pair(pair(pair(h, x), x), x)},
		{0, 2, []digest.Hash{{}}, pair(h, digest.Hash{})},
	} {
		if got, e := Climb(h, one.i, one.n, one.way); e != api.OK || got != one.want {
			t.Errorf("the %d-th of %d: %s, %d, want %s", one.i, one.n, told(got), int(e), told(one.want))
		}
		if !Check(one.want, h, one.i, one.n, one.way) || Check(changed(one.want, 3), h, one.i, one.n, one.way) {
			t.Errorf("Check of the %d-th of %d", one.i, one.n)
		}
	}
}

func TestClimbOfNoSuchNumber(t *testing.T) {
	h := leaf(0)
	long := leaves(40)
	for _, n := range []int{0, -1, -2, most + 1, most + 2, 2 * most, 1 << 32, 1<<32 + 1, math.MinInt, math.MinInt + 1, math.MaxInt - 1, math.MaxInt} {
		for _, i := range []int{0, 1, -1, n - 1, n, most - 1, most, math.MinInt, math.MaxInt} {
			for _, way := range [][]digest.Hash{nil, {}, long[1:2], long[1:17], long[1:18], long} {
				mustRefuse(t, "no such number", h, i, n, way, api.ErrArg)
			}
		}
	}
}

func TestClimbOfNoSuchPlace(t *testing.T) {
	l := leaves(33)
	for n := 1; n <= len(l); n++ {
		root := mustRoot(t, l[:n])
		for _, at := range []int{0, n - 1} {
			way := mustWay(t, l[:n], at)
			for _, i := range []int{-1, -2, -n, n, n + 1, 2 * n, at - 1<<Rows(n), at + 64, at + 1<<32, math.MinInt, math.MinInt + 1, math.MaxInt - 1, math.MaxInt} {
				mustRefuse(t, "no such place", l[at], i, n, way, api.ErrArg)
				if Check(root, l[at], i, n, way) {
					t.Errorf("Check of the %d-th as the %d-th of %d", at, i, n)
				}
			}
		}
	}
	for _, i := range []int{-1, most, math.MinInt, math.MaxInt} {
		mustRefuse(t, "of the most", l[0], i, most, l[1:17], api.ErrArg)
	}
}

// That a number or a place is wrong goes ahead of a wrong way.
func TestErrArgGoesAheadOfErrProof(t *testing.T) {
	h := leaf(0)
	for n := 1; n <= 20; n++ {
		for _, i := range []int{-1, n, math.MinInt, math.MaxInt} {
			for size := range Rows(n) + 3 {
				mustRefuse(t, "unlike ones", h, i, n, leaves(size), api.ErrArg)
				mustRefuse(t, "like ones", h, i, n, slices.Repeat([]digest.Hash{h}, size), api.ErrArg)
			}
		}
	}
}

func TestWaysOfOtherLengths(t *testing.T) {
	l := leaves(70)
	for n := 1; n <= len(l); n++ {
		root := mustRoot(t, l[:n])
		for _, i := range []int{0, n / 2, n - 1} {
			way := mustWay(t, l[:n], i)
			for size := range len(way) {
				mustRefuse(t, "too few", l[i], i, n, way[:size], api.ErrProof)
				mustRefuse(t, "the first ones away", l[i], i, n, way[len(way)-size:], api.ErrProof)
			}
			for _, more := range []int{1, 2, 3, 16, 100} {
				mustRefuse(t, "too many", l[i], i, n, append(slices.Clone(way), leaves(100 + more)[100:]...), api.ErrProof)
				mustRefuse(t, "too many like ones", l[i], i, n, append(slices.Clone(way), slices.Repeat([]digest.Hash{root}, more)...), api.ErrProof)
				mustRefuse(t, "too many ahead", l[i], i, n, append(leaves(100 + more)[100:], way...), api.ErrProof)
			}
			if len(way) > 0 {
				mustRefuse(t, "nil", l[i], i, n, nil, api.ErrProof)
				mustRefuse(t, "empty", l[i], i, n, []digest.Hash{}, api.ErrProof)
			}
		}
	}
	mustRefuse(t, "of one", l[0], 0, 1, l[1:2], api.ErrProof)
	mustRefuse(t, "of one, with itself", l[0], 0, 1, l[:1], api.ErrProof)
	mustRefuse(t, "of one, with noughts", l[0], 0, 1, make([]digest.Hash, 1), api.ErrProof)
	mustRefuse(t, "nil of the most", l[0], 0, most, nil, api.ErrProof)
	mustRefuse(t, "15 of the most", l[0], 0, most, l[1:16], api.ErrProof)
	mustRefuse(t, "17 of the most", l[0], 0, most, l[1:18], api.ErrProof)
	mustRefuse(t, "16 of half the most", l[0], 0, most/2, l[1:17], api.ErrProof)
	mustClimb(t, "16 of the most", l[0], 0, most, l[1:17])
	mustClimb(t, "16 of one more than half the most", l[0], 0, most/2+1, l[1:17])
	mustClimb(t, "15 of half the most", l[0], 0, most/2, l[1:16])
}

// In each row of each way what stands there becomes another one, and itself.
func TestDefencesInEachRow(t *testing.T) {
	l := leaves(40)
	for n := 1; n <= len(l); n++ {
		rows := allRows(l[:n])
		root := rows[len(rows)-1][0]
		for i := range n {
			way := wayIn(rows, i)
			at := i
			for row, width := range widths(n) {
				what := fmt.Sprintf("the row %d", row)
				self := rows[row][at]
				wrong := slices.Clone(way)
				if width%2 == 1 && at == width-1 {
					for _, other := range []digest.Hash{changed(self, 0), changed(self, 255), {}, rows[row][at-1], root, leaf(99)} {
						wrong[row] = other
						mustRefuse(t, what+" with another one", l[i], i, n, wrong, api.ErrProof)
					}
				} else {
					wrong[row] = self
					mustRefuse(t, what+" with itself", l[i], i, n, wrong, api.ErrProof)
					for _, other := range []digest.Hash{changed(way[row], 0), changed(self, 0), {}, leaf(99)} {
						wrong[row] = other
						mustClimb(t, what+" with yet another one", l[i], i, n, wrong)
						if Check(root, l[i], i, n, wrong) {
							t.Errorf("the %d-th of %d: %s of another way", i, n, what)
						}
					}
				}
				at /= 2
			}
		}
	}
}

// A wrong row is found wherever the further ones are right.
func TestAWrongRowAmongRightOnes(t *testing.T) {
	h := leaf(0)
	x := leaves(4)
	for what, one := range map[string]struct {
		i, n int
		way  []digest.Hash
	}{
		"the lowest one, itself":                 {0, 8, []digest.Hash{h, x[1], x[2]}},
		"the middle one, itself":                 {0, 8, []digest.Hash{x[1], pair(h, x[1]), x[2]}},
		"the middle one, itself, from the right": {3, 8, []digest.Hash{x[1], pair(x[1], h), x[2]}},
		"the highest one, itself":                {0, 8, []digest.Hash{x[1], x[2], pair(pair(h, x[1]), x[2])}},
		"all, themselves":                        {0, 8, []digest.Hash{h, pair(h, h), pair(pair(h, h), pair(h, h))}},
		"the lowest of five, another":            {4, 5, []digest.Hash{x[1], pair(h, x[1]), x[2]}},
		"the middle of five, another":            {4, 5, []digest.Hash{h, x[1], x[2]}},
		"the highest of five, itself":            {4, 5, []digest.Hash{h, pair(h, h), pair(pair(h, h), pair(h, h))}},
		"the lowest of six, itself":              {4, 6, []digest.Hash{h, pair(h, h), x[2]}},
		"the middle of six, another":             {4, 6, []digest.Hash{x[1], x[2], x[3]}},
		"of six, as if from the right":           {4, 6, []digest.Hash{x[1], pair(x[1], h), x[2]}},
		"the lowest of seven, another":           {6, 7, []digest.Hash{x[1], x[2], x[3]}},
		"the middle of seven, itself":            {6, 7, []digest.Hash{h, pair(h, h), x[3]}},
		"of two, itself":                         {0, 2, []digest.Hash{h}},
		"of two, itself, from the right":         {1, 2, []digest.Hash{h}},
		"of three, itself":                       {1, 3, []digest.Hash{h, x[1]}},
		"of three, another":                      {2, 3, []digest.Hash{x[1], x[2]}},
		"of three, the highest itself":           {2, 3, []digest.Hash{h, pair(h, h)}},
	} {
		mustRefuse(t, what, h, one.i, one.n, one.way, api.ErrProof)
	}
}

// Of hashes and of the same with their last ones twice the root is one: only the former may be proven by it.
func TestLastOnesTwice(t *testing.T) {
	for _, one := range []struct{ n, m int }{
		{3, 4}, {5, 6}, {5, 8}, {6, 8}, {7, 8}, {9, 10}, {9, 12}, {9, 16}, {10, 12}, {10, 16}, {12, 16}, {13, 14}, {13, 16}, {24, 32},
	} {
		l := leaves(one.n)
		last := l[one.n-one.n&-one.n:] // those below the lowest place where something is taken twice
		twice := slices.Concat(l, slices.Repeat(last, (one.m-one.n)/len(last)))
		root := mustRoot(t, l)
		if len(twice) != one.m || mustRoot(t, twice) != root {
			t.Fatalf("%d and %d: unlike roots", one.n, one.m)
		}
		for i, h := range twice {
			way := mustWay(t, twice, i)
			mustClimb(t, "twice", h, i, one.m, way)
			if right := i < one.n-len(last); Check(root, h, i, one.m, way) != right {
				t.Errorf("%d: the %d-th of %d is proven: %v", one.n, i, one.m, !right)
			}
		}
		for i, h := range l {
			way := mustWay(t, l, i)
			if !Check(root, h, i, one.n, way) {
				t.Errorf("the %d-th of %d isn't proven", i, one.n)
			}
			mustClimb(t, "as one of more", h, i, one.m, way)
		}
	}
}

func TestLikeHashesBesideEachOther(t *testing.T) {
	for what, one := range map[string]struct {
		l     []int
		wrong []int // the places whose ways don't climb
	}{
		"two":                     {[]int{1, 1}, []int{0, 1}},
		"two of three":            {[]int{1, 1, 2}, []int{0, 1}},
		"the other two of three":  {[]int{1, 2, 2}, nil},
		"three":                   {[]int{1, 1, 1}, []int{0, 1, 2}},
		"two of four":             {[]int{1, 1, 2, 3}, []int{0, 1}},
		"the middle ones of four": {[]int{1, 2, 2, 3}, nil},
		"the last ones of four":   {[]int{1, 2, 3, 3}, []int{2, 3}},
		"apart":                   {[]int{1, 2, 1, 3}, nil},
		"pairs":                   {[]int{1, 2, 1, 2}, []int{0, 1, 2, 3}},
		"pairs turned":            {[]int{1, 2, 2, 1}, nil},
		"four":                    {[]int{1, 1, 1, 1}, []int{0, 1, 2, 3}},
		"pairs of eight":          {[]int{1, 2, 3, 4, 5, 6, 5, 6}, []int{4, 5, 6, 7}},
		"halves of eight":         {[]int{1, 2, 3, 4, 1, 2, 3, 4}, []int{0, 1, 2, 3, 4, 5, 6, 7}},
		"the last ones of five":   {[]int{1, 2, 3, 4, 4}, nil},
		"the last one of seven":   {[]int{1, 2, 3, 4, 5, 5, 5}, []int{4, 5, 6}},
	} {
		var l []digest.Hash
		for _, i := range one.l {
			l = append(l, leaf(i))
		}
		root := mustRoot(t, l)
		for i, h := range l {
			way := mustWay(t, l, i)
			if slices.Contains(one.wrong, i) {
				mustRefuse(t, what, h, i, len(l), way, api.ErrProof)
				if Check(root, h, i, len(l), way) {
					t.Errorf("%s: the %d-th is proven", what, i)
				}
				continue
			}
			if top, e := Climb(h, i, len(l), way); e != api.OK || top != root || !Check(root, h, i, len(l), way) {
				t.Errorf("%s: the %d-th: %s, %d", what, i, told(top), int(e))
			}
		}
	}
}

func TestClimbOfAnything(t *testing.T) {
	r := rand.New(rand.NewSource(10))
	few := leaves(3)
	for range 20000 {
		n := r.Intn(12) - 1
		i := r.Intn(14) - 2
		h := few[r.Intn(3)]
		way := make([]digest.Hash, max(0, len(widths(n))+(r.Intn(9)-1)/7*(1-2*r.Intn(2))))
		at := max(i, 0)
		self := h
		for row := range way {
			way[row] = few[r.Intn(3)]
			if r.Intn(2) == 0 || n > 0 && at == (n-1)>>row && at%2 == 0 && r.Intn(4) > 0 {
				way[row] = self
			}
			self = careless(self, at, way[row:row+1])
			at /= 2
		}
		mustClimb(t, "anything", h, i, n, way)
	}
	for range 300 {
		n := 1 + r.Intn(most)
		i := r.Intn(n)
		mustClimb(t, "unlike ones", leaf(n), i, n, leaves(len(widths(n))))
		self := leaf(n)
		var way []digest.Hash
		for row, width := range widths(n) {
			other := leaf(row)
			if at := i >> row; at == width-1 && width%2 == 1 {
				other = self
			}
			way = append(way, other)
			self = careless(self, i>>row, way[row:])
		}
		if _, e := Climb(leaf(n), i, n, way); e != api.OK {
			t.Errorf("the %d-th of %d: %d", i, n, int(e))
		}
		mustClimb(t, "right ones", leaf(n), i, n, way)
	}
}

// P10.3

func TestEachWayClimbsToTheRoot(t *testing.T) {
	l := leaves(70)
	for n := 1; n <= len(l); n++ {
		root := mustRoot(t, l[:n])
		for i := range n {
			way := mustWay(t, l[:n], i)
			if top, e := Climb(l[i], i, n, way); e != api.OK || top != root {
				t.Errorf("the %d-th of %d: %s, %d", i, n, told(top), int(e))
			}
			mustClimb(t, "its way", l[i], i, n, way)
		}
	}
}

func TestNoOtherHashClimbsToTheRoot(t *testing.T) {
	l := leaves(34)
	for n := 1; n <= 33; n++ {
		root := mustRoot(t, l[:n])
		for i := range n {
			way := mustWay(t, l[:n], i)
			others := []digest.Hash{{}, root, changed(l[i], 0), changed(l[i], 128), changed(l[i], 255)}
			for j, h := range l[:n+1] {
				if j != i {
					others = append(others, h)
				}
			}
			for _, h := range others {
				if h == l[i] {
					continue
				}
				if top, e := Climb(h, i, n, way); e == api.OK && top == root || e != api.OK && (e != api.ErrProof || top != digest.Hash{}) {
					t.Errorf("%s as the %d-th of %d: %s, %d", told(h), i, n, told(top), int(e))
				}
				if Check(root, h, i, n, way) {
					t.Errorf("%s is proven as the %d-th of %d", told(h), i, n)
				}
			}
		}
	}
}

func TestNoOtherPlaceClimbsToTheRoot(t *testing.T) {
	l := leaves(33)
	for n := 1; n <= len(l); n++ {
		root := mustRoot(t, l[:n])
		for i := range n {
			way := mustWay(t, l[:n], i)
			for j := range n {
				if Check(root, l[i], j, n, way) != (i == j) {
					t.Errorf("the %d-th of %d as the %d-th", i, n, j)
				}
			}
		}
	}
}

func TestOtherNumbersOfHashes(t *testing.T) {
	l := leaves(20)
	for n := 1; n <= len(l); n++ {
		root := mustRoot(t, l[:n])
		for i := range n {
			way := mustWay(t, l[:n], i)
			for m := range 2*n + 3 {
				mustClimb(t, "as one of another number", l[i], i, m, way)
			}
		}
		last := mustWay(t, l[:n], n-1)
		for m := n + 1; m < 2*n+3; m++ {
			if n%2 == 1 && Check(root, l[n-1], n-1, m, last) {
				t.Errorf("the last one of %d as one of %d", n, m)
			}
		}
	}
}

func TestArgumentsStayAsTheyAre(t *testing.T) {
	for n := 1; n <= 40; n++ {
		room := leaves(n + 9)
		l := room[2 : n+2] // with spare room ahead and behind
		before := slices.Clone(room)
		mustRoot(t, l)
		for i := range n {
			mustWay(t, l, i)
		}
		for _, i := range []int{-1, n, math.MinInt, math.MaxInt} {
			mustNoWay(t, l, i, api.ErrArg)
		}
		if !slices.Equal(room, before) {
			t.Errorf("%d: hashes have changed", n)
		}
		root := mustRoot(t, l)
		for i := range n {
			way := mustWay(t, l, i)
			spare := slices.Concat(leaves(2), way, leaves(20))
			as := slices.Clone(spare)
			part := spare[2 : 2+len(way)]
			if !Check(root, l[i], i, n, part) {
				t.Errorf("the %d-th of %d", i, n)
			}
			Climb(l[i], i, n, part)
			Climb(l[i], i, n+1, part)
			Climb(changed(l[i], 1), i, n, part)
			Climb(l[i], -1, n, part)
			if !slices.Equal(spare, as) {
				t.Errorf("the %d-th of %d: the way has changed", i, n)
			}
		}
	}
}

func TestAnswersAreNewMemory(t *testing.T) {
	for n := 1; n <= 40; n++ {
		l := leaves(n)
		root := mustRoot(t, l)
		for i := range n {
			one, other := mustWay(t, l, i), mustWay(t, l, i)
			want := slices.Clone(one)
			clear(one[:cap(one)])
			if !slices.Equal(other, want) || !slices.Equal(l, leaves(n)) {
				t.Fatalf("the %d-th of %d: shared with a way that has changed", i, n)
			}
			if again := mustWay(t, l, i); !slices.Equal(again, want) {
				t.Fatalf("the %d-th of %d: another way, as one has changed", i, n)
			}
			if !Check(root, l[i], i, n, want) {
				t.Fatalf("the %d-th of %d", i, n)
			}
			clear(l)
			if !slices.Equal(other, want) {
				t.Fatalf("the %d-th of %d: shared with hashes that have changed", i, n)
			}
			copy(l, leaves(n))
		}
	}
}

// What was handed in isn't kept: a change behind the call is told by the next one, and by no answer.
func TestNothingIsKept(t *testing.T) {
	l := leaves(11)
	root := mustRoot(t, l)
	was := root
	way := mustWay(t, l, 4)
	l[5] = leaf(77)
	if root != was {
		t.Error("the root has changed")
	}
	rows := allRows(l)
	if now := mustRoot(t, l); now == was || now != rows[len(rows)-1][0] {
		t.Errorf("Root: %s", told(now))
	}
	if now := mustWay(t, l, 4); slices.Equal(now, way) || !slices.Equal(now, wayIn(rows, 4)) {
		t.Error("Way")
	}
	if !Check(was, l[4], 4, 11, way) {
		t.Error("the way of the hashes that were")
	}
	top, _ := Climb(l[4], 4, 11, way)
	way[0] = leaf(77)
	if top != was {
		t.Error("what was climbed to has changed")
	}
	if now, e := Climb(l[4], 4, 11, way); e != api.OK || now != rows[len(rows)-1][0] {
		t.Errorf("Climb: %s, %d", told(now), int(e))
	}
	if Check(was, l[4], 4, 11, way) {
		t.Error("Check")
	}
}

// An answer hangs on the arguments alone, not on what was asked before.
func TestAnswersAreTheSameAgain(t *testing.T) {
	l := leaves(23)
	root := mustRoot(t, l)
	way := mustWay(t, l, 22)
	for range 3 {
		Root(nil)
		Way(nil, 0)
		Way(l, 23)
		Climb(l[0], 0, 23, nil)
		Check(leaf(9), l[0], 0, 23, way)
		mustRoot(t, leaves(50))
		mustWay(t, leaves(9), 3)
		if mustRoot(t, l) != root || !slices.Equal(mustWay(t, l, 22), way) || !Check(root, l[22], 22, 23, way) {
			t.Fatal("another answer")
		}
	}
}

// What lies behind the hashes that are handed in is told by no answer.
func TestSpareRoomIsNotRead(t *testing.T) {
	for n := 1; n <= 20; n++ {
		a, b := leaves(n+5), leaves(n+5)
		clear(b[n:])
		if mustRoot(t, a[:n]) != mustRoot(t, b[:n]) || mustRoot(t, a[:n]) != mustRoot(t, a[:n:n]) {
			t.Errorf("%d: the root hangs on spare room", n)
		}
		if !slices.Equal(mustWay(t, a[:n], n-1), mustWay(t, b[:n], n-1)) {
			t.Errorf("%d: the way hangs on spare room", n)
		}
	}
}
