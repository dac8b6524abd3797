package vary_test

import (
	"bytes"
	"encoding/binary"
	"math"
	"math/big"
	"slices"
	"testing"

	"cuecard/api"
	"cuecard/vary"
)

// The signatures are part of what is asked: a change of one must not build.
var (
	_ func(uint64) []byte                        = vary.Put
	_ func([]byte, int) (uint64, int, api.Errno) = vary.Get
	_ func(int64) uint64                         = vary.Zig
	_ func(uint64) int64                         = vary.Zag
)

// The errors, by their numbers.
const (
	outOfRange = 3
	noForm     = 4
	tooShort   = 5
)

// got: all that a call of Get answers.
type got struct {
	x    uint64
	next int
	e    api.Errno
}

func get(b []byte, at int) got {
	x, next, e := vary.Get(b, at)
	return got{x, next, e}
}

// gets: what Get answers, and that it leaves b as it is.
func gets(t *testing.T, b []byte, at int, want got) {
	t.Helper()
	before := bytes.Clone(b)
	if g := get(b, at); g != want {
		t.Errorf("Get(%v, %d): %v, wanted %v", b, at, g, want)
	}
	if !bytes.Equal(b, before) {
		t.Errorf("Get(%v, %d) made %v of it", before, at, b)
	}
}

func times(n int, c byte) []byte { return bytes.Repeat([]byte{c}, n) }

// bytesOf: lists in a row.
func bytesOf(lists ...[]byte) []byte { return slices.Concat(lists...) }

// numbers: small ones, those around each power of 2, and some that are spread over all.
func numbers() []uint64 {
	var l []uint64
	for x := range uint64(1000) {
		l = append(l, x, math.MaxUint64-x)
	}
	for i := range 64 {
		p := uint64(1) << i
		l = append(l, p-2, p-1, p, p+1, p|1<<63, p*3)
	}
	x := uint64(1)
	for i := range 20000 {
		x = x*6364136223846793005 + 1442695040888963407
		l = append(l, x>>(i%64))
	}
	return l
}

// written: numbers and their bytes, told by hand.
var written = []struct {
	x uint64
	b []byte
}{
	{0, []byte{0}},
	{1, []byte{1}},
	{10, []byte{10}},
	{126, []byte{126}},
	{127, []byte{127}},
	{128, []byte{128, 1}},
	{129, []byte{129, 1}},
	{255, []byte{255, 1}},
	{256, []byte{128, 2}},
	{300, []byte{172, 2}},
	{16383, []byte{255, 127}},
	{16384, []byte{128, 128, 1}},
	{16385, []byte{129, 128, 1}},
	{2097151, []byte{255, 255, 127}},
	{2097152, []byte{128, 128, 128, 1}},
	{1 << 32, []byte{128, 128, 128, 128, 16}},
	{1<<49 - 1, bytesOf(times(6, 255), []byte{127})},
	{1 << 49, bytesOf(times(7, 128), []byte{1})},
	{1<<56 - 1, bytesOf(times(7, 255), []byte{127})},
	{1 << 56, bytesOf(times(8, 128), []byte{1})},
	{1<<63 - 1, bytesOf(times(8, 255), []byte{127})},
	{1 << 63, bytesOf(times(9, 128), []byte{1})},
	{1<<63 + 1, bytesOf([]byte{129}, times(8, 128), []byte{1})},
	{math.MaxUint64 - 1, bytesOf([]byte{254}, times(8, 255), []byte{1})},
	{math.MaxUint64, bytesOf(times(9, 255), []byte{1})},
}

// P2.1: Put.

func TestPutIsANumbersBytes(t *testing.T) {
	for _, c := range written {
		if b := vary.Put(c.x); !bytes.Equal(b, c.b) {
			t.Errorf("Put(%d): %v, wanted %v", c.x, b, c.b)
		}
	}
}

// As the document's words say it: seven bits each, the least weight first, 128 more where another one comes, no more than are needed.
func TestPutBitByBit(t *testing.T) {
	for _, x := range numbers() {
		b := vary.Put(x)
		sum := new(big.Int)
		for i, c := range b {
			if (c >= 128) != (i < len(b)-1) {
				t.Fatalf("Put(%d): %v: the byte at %d", x, b, i)
			}
			sum.Add(sum, new(big.Int).Lsh(big.NewInt(int64(c%128)), uint(7*i)))
		}
		if sum.Cmp(new(big.Int).SetUint64(x)) != 0 {
			t.Fatalf("Put(%d): %v is %v", x, b, sum)
		}
		if len(b) != max(1, (sum.BitLen()+6)/7) {
			t.Fatalf("Put(%d): %v: so many bytes", x, b)
		}
	}
}

func TestPutAsTheLibraryDoes(t *testing.T) {
	for _, x := range numbers() {
		if b, want := vary.Put(x), binary.AppendUvarint(nil, x); !bytes.Equal(b, want) {
			t.Fatalf("Put(%d): %v, wanted %v", x, b, want)
		}
	}
}

// P2.1: Get, of what is right.

func TestGetOfANumbersBytes(t *testing.T) {
	for _, c := range written {
		n := len(c.b)
		gets(t, c.b, 0, got{c.x, n, 0})
		for _, ahead := range [][]byte{{0}, {255}, {128, 128}, {9, 200, 7}, times(12, 128), times(300, 1)} {
			gets(t, bytesOf(ahead, c.b), len(ahead), got{c.x, len(ahead) + n, 0})
		}
		for _, behind := range [][]byte{{0}, {1}, {7, 7}, {128}, {128, 0}, times(12, 255)} {
			gets(t, bytesOf(c.b, behind), 0, got{c.x, n, 0})
			gets(t, bytesOf([]byte{172, 2}, c.b, behind), 2, got{c.x, 2 + n, 0})
		}
	}
}

// A place may lie within a number's bytes: what stands from there on is what counts.
func TestGetFromWithin(t *testing.T) {
	b := []byte{172, 130, 2, 5}
	gets(t, b, 0, got{44 + 2<<7 + 2<<14, 3, 0})
	gets(t, b, 1, got{2 + 2<<7, 3, 0})
	gets(t, b, 2, got{2, 3, 0})
	gets(t, b, 3, got{5, 4, 0})
	gets(t, b, 4, got{0, 0, tooShort})
	gets(t, b, 5, got{0, 0, outOfRange})
}

// P2.1: Get, of what is wrong.

func TestGetOfAPlaceThatIsNone(t *testing.T) {
	for _, b := range [][]byte{nil, {}, {1}, {128}, {1, 2, 3}, {128, 0}, times(10, 128), times(40, 5)} {
		for _, at := range []int{math.MinInt, math.MinInt + 1, -len(b) - 1, -11, -2, -1, len(b) + 1, len(b) + 2, len(b) + 11, math.MaxInt - 10, math.MaxInt - 1, math.MaxInt} {
			gets(t, b, at, got{0, 0, outOfRange})
		}
	}
}

func TestGetAtTheLength(t *testing.T) {
	for _, b := range [][]byte{nil, {}, {0}, {1}, {128}, {172, 2}, {128, 0}, times(10, 128), times(40, 5)} {
		gets(t, b, len(b), got{0, 0, tooShort})
	}
}

func TestGetOfBytesThatEndTooEarly(t *testing.T) {
	for n := range 10 {
		for _, c := range []byte{128, 129, 172, 254, 255} {
			gets(t, times(n, c), 0, got{0, 0, tooShort})
			gets(t, bytesOf([]byte{4, 0}, times(n, c)), 2, got{0, 0, tooShort})
			gets(t, bytesOf(times(10, 128), times(n, c)), 10, got{0, 0, tooShort})
		}
	}
}

// Ten of 128 or more are wrong, be they the last ones or not; that comes ahead of ErrShort.
func TestGetOfTenWithoutAnEnd(t *testing.T) {
	for _, c := range []byte{128, 129, 254, 255} {
		for _, behind := range [][]byte{nil, {0}, {1}, {127}, {128}, {255, 255}, times(100, 128)} {
			gets(t, bytesOf(times(10, c), behind), 0, got{0, 0, noForm})
			gets(t, bytesOf([]byte{7}, times(10, c), behind), 1, got{0, 0, noForm})
		}
	}
	gets(t, times(11, 128), 1, got{0, 0, noForm})
	gets(t, times(11, 128), 2, got{0, 0, tooShort})
}

func TestGetOfMoreBytesThanAreNeeded(t *testing.T) {
	for n := range 9 {
		for _, c := range []byte{128, 129, 255} {
			b := bytesOf(times(n+1, c), []byte{0})
			gets(t, b, 0, got{0, 0, noForm})
			gets(t, bytesOf([]byte{3}, b, []byte{1}), 1, got{0, 0, noForm})
		}
	}
	gets(t, []byte{0, 0}, 0, got{0, 1, 0})
	gets(t, []byte{128, 0, 1}, 1, got{0, 2, 0})
	gets(t, []byte{255, 128, 0}, 0, got{0, 0, noForm})
	gets(t, []byte{172, 130, 0}, 0, got{0, 0, noForm})
}

func TestGetOfNumbersThatAreTooGreat(t *testing.T) {
	for _, c := range []byte{128, 129, 255} {
		for last := 2; last < 128; last++ {
			gets(t, append(times(9, c), byte(last)), 0, got{0, 0, noForm})
			gets(t, bytesOf([]byte{1, 1}, times(9, c), []byte{byte(last), 1}), 2, got{0, 0, noForm})
			// One byte less, and there is room for all seven bits.
			want, _ := binary.Uvarint(append(times(8, c), byte(last)))
			gets(t, append(times(8, c), byte(last)), 0, got{want, 9, 0})
		}
	}
}

func TestExamples(t *testing.T) {
	if b := vary.Put(300); !bytes.Equal(b, []byte{172, 2}) {
		t.Error("Put(300):", b)
	}
	gets(t, []byte{172, 2}, 0, got{300, 2, 0})
	gets(t, []byte{128, 0}, 0, got{0, 0, noForm})
	gets(t, []byte{128}, 0, got{0, 0, tooShort})
	if vary.Zig(-1) != 1 || vary.Zig(1) != 2 {
		t.Error("Zig:", vary.Zig(-1), vary.Zig(1))
	}
}

// asked: what the document's words ask of Get, sentence by sentence.
func asked(b []byte, at int) got {
	if at < 0 || at > len(b) {
		return got{e: outOfRange}
	}
	end := at
	for end < len(b) && b[end] >= 128 {
		end++
	}
	switch {
	case end-at >= 10:
		return got{e: noForm}
	case end == len(b):
		return got{e: tooShort}
	}
	sum := new(big.Int)
	for i := end; i >= at; i-- {
		sum.Lsh(sum, 7)
		sum.Add(sum, big.NewInt(int64(b[i]%128)))
	}
	if !sum.IsUint64() || !bytes.Equal(binary.AppendUvarint(nil, sum.Uint64()), b[at:end+1]) {
		return got{e: noForm}
	}
	return got{sum.Uint64(), end + 1, 0}
}

// rows: all lists of so many of these bytes.
func rows(n int, of ...byte) [][]byte {
	all := [][]byte{nil}
	for range n {
		var longer [][]byte
		for _, b := range all {
			for _, c := range of {
				longer = append(longer, append(bytes.Clone(b), c))
			}
		}
		all = longer
	}
	return all
}

func TestGetAsTheDocumentAsks(t *testing.T) {
	var lists [][]byte
	for n := range 6 {
		lists = append(lists, rows(n, 0, 1, 127, 128, 255)...)
	}
	for _, tail := range rows(4, 0, 1, 2, 127, 128, 129, 255) {
		for n := 5; n < 9; n++ {
			lists = append(lists, append(times(n, 128), tail...), append(times(n, 255), tail...))
		}
	}
	for _, b := range lists {
		for at := -1; at <= len(b)+1; at++ {
			gets(t, b, at, asked(b, at))
		}
		if t.Failed() {
			return
		}
	}
}

// P2.2: Zig and Zag.

var zigs = []struct {
	x int64
	u uint64
}{
	{0, 0}, {-1, 1}, {1, 2}, {-2, 3}, {2, 4}, {-3, 5}, {5, 10}, {63, 126}, {-64, 127}, {64, 128}, {-65, 129},
	{math.MaxInt32, 1<<32 - 2}, {math.MinInt32, 1<<32 - 1},
	{1 << 62, 1 << 63}, {-1 << 62, 1<<63 - 1},
	{math.MaxInt64 - 1, math.MaxUint64 - 3}, {math.MinInt64 + 1, math.MaxUint64 - 2},
	{math.MaxInt64, math.MaxUint64 - 1}, {math.MinInt64, math.MaxUint64},
}

func TestZigAndZag(t *testing.T) {
	for _, c := range zigs {
		if u := vary.Zig(c.x); u != c.u {
			t.Errorf("Zig(%d): %d, wanted %d", c.x, u, c.u)
		}
		if x := vary.Zag(c.u); x != c.x {
			t.Errorf("Zag(%d): %d, wanted %d", c.u, x, c.x)
		}
	}
}

// zigOf: 2 x, or -2 x - 1, in numbers without a bound.
func zigOf(x int64) *big.Int {
	n := big.NewInt(x)
	if x >= 0 {
		return n.Mul(n, big.NewInt(2))
	}
	n.Mul(n, big.NewInt(-2))
	return n.Sub(n, big.NewInt(1))
}

func TestZigIsReckonedAsSaid(t *testing.T) {
	for _, u := range numbers() {
		x := int64(u)
		if z := vary.Zig(x); new(big.Int).SetUint64(z).Cmp(zigOf(x)) != 0 {
			t.Fatalf("Zig(%d): %d, wanted %v", x, z, zigOf(x))
		}
		if y := vary.Zag(u); zigOf(y).Cmp(new(big.Int).SetUint64(u)) != 0 {
			t.Fatalf("Zag(%d): %d, whose Zig is %v", u, y, zigOf(y))
		}
		if vary.Zag(vary.Zig(x)) != x || vary.Zig(vary.Zag(u)) != u {
			t.Fatalf("there and back: %d, %d", x, u)
		}
	}
}

// P2.3: what is put is got, and by no other bytes.

func TestWhatIsPutIsGot(t *testing.T) {
	behinds := [][]byte{nil, {0}, {1}, {127}, {128}, {255}, {128, 0}, times(11, 128), times(11, 255)}
	for _, x := range numbers() {
		b := vary.Put(x)
		for _, behind := range behinds {
			gets(t, bytesOf(b, behind), 0, got{x, len(b), 0})
			gets(t, bytesOf([]byte{200, 9}, b, behind), 2, got{x, 2 + len(b), 0})
		}
		for n := range b {
			gets(t, b[:n:n], 0, got{0, 0, tooShort}) // no beginning of its bytes tells it
		}
		if t.Failed() {
			return
		}
	}
}

func TestNumbersInARow(t *testing.T) {
	var all []byte
	l := numbers()
	for _, x := range l {
		all = append(all, vary.Put(vary.Zig(int64(x)))...)
	}
	at := 0
	for i, x := range l {
		u, next, e := vary.Get(all, at)
		if e != api.OK || vary.Zag(u) != int64(x) || next <= at {
			t.Fatalf("number %d at %d: %d, %d, %v, wanted %d", i, at, u, next, e, x)
		}
		at = next
	}
	if at != len(all) {
		t.Errorf("the last one ends at %d, wanted %d", at, len(all))
	}
}

// Of all lists of up to three bytes, those that tell a number are its own bytes, and each number is told by one alone.
func TestNoOtherBytesTellANumber(t *testing.T) {
	told := make([]bool, 1<<21)
	count := 0
	look := func(b ...byte) {
		x, next, e := vary.Get(b, 0)
		if e != api.OK || next != len(b) {
			return
		}
		if x >= 1<<21 || told[x] || !bytes.Equal(vary.Put(x), b) {
			t.Fatalf("%v tell %d", b, x)
		}
		told[x] = true
		count++
	}
	for i := range 256 {
		look(byte(i))
		for j := range 256 {
			look(byte(i), byte(j))
			for k := range 256 {
				look(byte(i), byte(j), byte(k))
			}
		}
	}
	if count != len(told) {
		t.Errorf("%d numbers are told, wanted %d", count, len(told))
	}
}

// Rule 4: lists that are handed in, and what is answered.

func TestGetReadsNothingBehindTheLength(t *testing.T) {
	for n := range 10 {
		whole := bytesOf(times(n, 129), []byte{1, 1, 1})
		gets(t, whole[:n], 0, got{0, 0, tooShort})
		gets(t, whole[:n], n, got{0, 0, tooShort})
		gets(t, whole[:n], n+1, got{0, 0, outOfRange})
		if !bytes.Equal(whole, bytesOf(times(n, 129), []byte{1, 1, 1})) {
			t.Fatal("what lies behind the length was changed:", whole)
		}
	}
	whole := times(12, 128)
	gets(t, whole[:9], 0, got{0, 0, tooShort})
	gets(t, whole[:10], 0, got{0, 0, noForm})
}

func TestGetHangsOnItsBytesAlone(t *testing.T) {
	b := []byte{172, 2, 7}
	gets(t, b, 0, got{300, 2, 0})
	b[0] = 5
	gets(t, b, 0, got{5, 1, 0})
	gets(t, nil, 0, got{0, 0, tooShort})
	gets(t, b, 2, got{7, 3, 0})
}

func TestPutAnswersNewMemory(t *testing.T) {
	for _, c := range written {
		first, second := vary.Put(c.x), vary.Put(c.x)
		spoiled := first[:cap(first)]
		for i := range spoiled {
			spoiled[i] = 99
		}
		if third := vary.Put(c.x); !bytes.Equal(second, c.b) || !bytes.Equal(third, c.b) {
			t.Errorf("Put(%d): %v, %v, wanted %v", c.x, second, third, c.b)
		}
	}
}
