package window_test

import (
	"bytes"
	"math"
	"runtime"
	"slices"
	"testing"
	"time"

	"cuecard/api"
	"cuecard/window"
)

// The signatures are part of what is asked: a change of one must not build.
var (
	_ func(int) (*window.Window, api.Errno) = window.New
	_ func(*window.Window, ...byte)         = (*window.Window).Put
	_ func(*window.Window)                  = (*window.Window).Cut
	_ func(*window.Window, int) api.Errno   = (*window.Window).Most
	_ func(*window.Window) []byte           = (*window.Window).Bytes
	_ func(*window.Window) int              = (*window.Window).Total
	_ func(*window.Window) int              = (*window.Window).Held
)

// The limit and the errors, by their numbers.
const (
	maxMatch   = 1 << 20
	noWindow   = 1
	outOfRange = 3
)

// wrong: numbers that no window may have.
var wrong = []int{math.MinInt, math.MinInt32, -maxMatch, -1, 0, maxMatch + 1, 2 * maxMatch, math.MaxInt32, 1<<32 + 1, math.MaxInt}

func opened(t *testing.T, most int) *window.Window {
	t.Helper()
	w, e := window.New(most)
	if w == nil || e != api.OK {
		t.Fatalf("New(%d): %v, %v", most, w, e)
	}
	return w
}

func is[T comparable](t *testing.T, what string, got, want T) {
	t.Helper()
	if got != want {
		t.Errorf("%s: %v, wanted %v", what, got, want)
	}
}

func same(t *testing.T, what string, got []byte, want ...byte) {
	t.Helper()
	if !bytes.Equal(got, want) {
		t.Errorf("%s: %d bytes %.40v, wanted %d bytes %.40v", what, len(got), got, len(want), want)
	}
}

// tells: its bytes, how many came, and that no fewer than its bytes are held, at most twice a number, and none that didn't come.
func tells(t *testing.T, what string, w *window.Window, total, greatest int, want ...byte) {
	t.Helper()
	same(t, what+": Bytes", w.Bytes(), want...)
	is(t, what+": Total", w.Total(), total)
	if n := w.Held(); n < len(want) || n > 2*greatest || n > total {
		t.Errorf("%s: Held %d, of %d bytes, and a number of %d", what, n, len(want), greatest)
	}
}

// The document's words, taken as they stand: what is held against the package.

// came: a byte that came, and whether it was one of its bytes at all times.
type came struct {
	c    byte
	kept bool
}

type asAsked struct {
	most     int
	greatest int // since it was cut, or made
	all      []came
}

func newAsAsked(most int) *asAsked { return &asAsked{most: most, greatest: most} }

func (a *asAsked) put(b []byte) {
	for _, c := range b {
		a.all = append(a.all, came{c, true})
	}
	a.forget()
}

// forget: those that aren't its bytes now are none any more.
func (a *asAsked) forget() {
	for i := range max(0, len(a.all)-a.most) {
		a.all[i].kept = false
	}
}

func (a *asAsked) cut() {
	a.all, a.greatest = nil, a.most
}

func (a *asAsked) setMost(most int) api.Errno {
	if most < 1 || most > maxMatch {
		return outOfRange
	}
	a.most, a.greatest = most, max(a.greatest, most)
	a.forget()
	return 0
}

func (a *asAsked) bytes() []byte {
	var b []byte
	for _, x := range a.all {
		if x.kept {
			b = append(b, x.c)
		}
	}
	return b
}

// step: p puts n bytes at once, o puts n bytes one by one, m is Most(n), c cuts.
type step struct {
	do byte
	n  int
}

// taken: whether the window does at a step what the document asks.
func taken(w *window.Window, a *asAsked, s step, next *byte) bool {
	switch s.do {
	case 'p', 'o':
		b := make([]byte, s.n)
		for i := range b {
			*next++
			b[i] = *next
		}
		a.put(b)
		if s.do == 'p' {
			w.Put(b...)
			break
		}
		for _, c := range b {
			w.Put(c)
		}
	case 'm':
		if w.Most(s.n) != a.setMost(s.n) {
			return false
		}
	case 'c':
		w.Cut()
		a.cut()
	}
	b := w.Bytes()
	return bytes.Equal(b, a.bytes()) && w.Total() == len(a.all) && w.Held() >= len(b) && w.Held() <= min(2*a.greatest, len(a.all))
}

// chance: numbers that look like chance's, and are the same in each run.
type chance uint64

func (c *chance) below(n int) int {
	*c = *c*6364136223846793005 + 1442695040888963407
	return int(uint64(*c>>33) % uint64(n))
}

func upTo(n int) []byte {
	l := make([]byte, n)
	for i := range l {
		l[i] = byte(i*7 + i>>8 + i>>16)
	}
	return l
}

// last: the last most bytes, or all.
func last(l []byte, most int) []byte { return l[max(0, len(l)-most):] }

// inTime: it ends, and in less time than it would take to copy a great window's bytes at each byte that comes.
func inTime(t *testing.T, what string, do func()) {
	t.Helper()
	done := make(chan bool)
	go func() {
		defer close(done)
		do()
	}()
	select {
	case <-done:
	case <-time.After(time.Minute):
		t.Fatal(what, "takes too long")
	}
}

// P14.1: New.

func TestNewRefuses(t *testing.T) {
	for _, most := range wrong {
		w, e := window.New(most)
		if w != nil || e != outOfRange || e.Error() != "error 3" {
			t.Errorf("New(%d): %v, %v", most, w, e)
		}
	}
}

func TestToANewOneNothingCame(t *testing.T) {
	for _, most := range []int{1, 2, 3, 2000, maxMatch - 1, maxMatch} {
		w := opened(t, most)
		tells(t, "new", w, 0, most)
		w.Put()
		w.Put(nil...)
		w.Put([]byte{}...)
		tells(t, "Put of none", w, 0, most)
		w.Cut()
		tells(t, "new, and cut", w, 0, most)
		is(t, "Most of the same", w.Most(most), api.OK)
		tells(t, "new, of the same number", w, 0, most)
	}
}

// P14.1, P14.2: Put, Bytes, Total.

func TestExample(t *testing.T) {
	w := opened(t, 3)
	w.Put([]byte("abcd")...)
	tells(t, "Put a b c d", w, 4, 3, []byte("bcd")...)
	is(t, "Most(5)", w.Most(5), api.OK)
	tells(t, "Most(5)", w, 4, 5, []byte("bcd")...)
	w.Put('e')
	tells(t, "Put e", w, 5, 5, []byte("bcde")...)
	w.Cut()
	tells(t, "Cut", w, 0, 5)
	w.Put('x')
	tells(t, "Put x", w, 1, 5, 'x')
}

func TestTheLastOnes(t *testing.T) {
	for most := 1; most <= 20; most++ {
		for n := range 70 {
			l := upTo(n)
			atOnce, oneByOne := opened(t, most), opened(t, most)
			atOnce.Put(l...)
			tells(t, "at once", atOnce, n, most, last(l, most)...)
			for i := range l {
				oneByOne.Put(l[i])
				tells(t, "one by one", oneByOne, i+1, most, last(l[:i+1], most)...)
			}
		}
	}
}

func TestEachByte(t *testing.T) {
	w := opened(t, 2)
	for c := range 256 {
		w.Put(byte(c), byte(255-c))
		tells(t, "Put", w, 2*c+2, 2, byte(c), byte(255-c))
	}
	all := opened(t, 256)
	all.Put(upTo(256)...)
	tells(t, "Put of all", all, 256, 256, upTo(256)...)
}

// Bytes that are the same are as many as came.
func TestTheSameByteAgain(t *testing.T) {
	w := opened(t, 4)
	for i := range 20 {
		w.Put(0)
		tells(t, "Put of a byte 0", w, i+1, 4, make([]byte, min(4, i+1))...)
	}
}

func TestGreatestNumber(t *testing.T) {
	for _, most := range []int{maxMatch, maxMatch - 1} {
		w := opened(t, most)
		l := upTo(3*maxMatch + 5)
		w.Put(l[:most]...)
		tells(t, "as many as its number", w, most, most, l[:most]...)
		w.Put(l[most])
		tells(t, "one more", w, most+1, most, l[1:most+1]...)
		w.Put(l[most+1:]...)
		tells(t, "all", w, len(l), most, last(l, most)...)
		is(t, "Most(1)", w.Most(1), api.OK)
		is(t, "Most of the greatest", w.Most(maxMatch), api.OK)
		tells(t, "Most(1), and of the greatest", w, len(l), maxMatch, last(l, 1)...)
		w.Put(l...)
		tells(t, "all, once more", w, 2*len(l), maxMatch, last(l, maxMatch)...)
	}
}

func TestLeastNumber(t *testing.T) {
	w := opened(t, 1)
	for i, c := range upTo(50) {
		w.Put(c)
		tells(t, "Put", w, i+1, 1, c)
	}
	w.Put(1, 2, 3)
	tells(t, "Put of three", w, 53, 1, 3)
}

// P14.1: Most.

func TestMostRefusesAndChangesNothing(t *testing.T) {
	for _, n := range wrong {
		w := opened(t, 3)
		is(t, "Most of a new one", w.Most(n), api.Errno(outOfRange))
		w.Put(1, 2, 3, 4)
		held := w.Held()
		is(t, "Most", w.Most(n), api.Errno(outOfRange))
		tells(t, "refused", w, 4, 3, 2, 3, 4)
		is(t, "Held", w.Held(), held)
		w.Put(5)
		tells(t, "refused, and Put", w, 5, 3, 3, 4, 5)
		w.Cut()
		is(t, "Most behind Cut", w.Most(n), api.Errno(outOfRange))
		w.Put(6, 7, 8, 9)
		tells(t, "refused, cut, and Put", w, 4, 3, 7, 8, 9)
	}
}

func TestMostThatIsLess(t *testing.T) {
	w := opened(t, 5)
	w.Put(1, 2, 3, 4, 5, 6)
	for n := 5; n >= 1; n-- {
		is(t, "Most", w.Most(n), api.OK)
		tells(t, "Most", w, 6, 5, last([]byte{2, 3, 4, 5, 6}, n)...)
	}
	w.Put(7)
	tells(t, "Put", w, 7, 5, 7)
}

func TestMostThatIsMore(t *testing.T) {
	w := opened(t, 2)
	w.Put(1, 2, 3)
	is(t, "Most(4)", w.Most(4), api.OK)
	tells(t, "Most(4)", w, 3, 4, 2, 3) // 1 was none of its bytes, and comes back no more
	w.Put(4)
	tells(t, "Put", w, 4, 4, 2, 3, 4)
	w.Put(5)
	tells(t, "Put till it is full", w, 5, 4, 2, 3, 4, 5)
	w.Put(6)
	tells(t, "Put of one more", w, 6, 4, 3, 4, 5, 6)
}

func TestMostThatIsLessAndMore(t *testing.T) {
	for less := 1; less <= 9; less++ {
		for more := less; more <= 12; more++ {
			for n := range 25 {
				w := opened(t, 8)
				l := upTo(n + 9)
				w.Put(l[:n]...)
				w.Most(less)
				w.Most(more)
				kept := min(n, less, 8)
				tells(t, "Most twice", w, n, max(8, more), last(l[:n], kept)...)
				w.Put(l[n:]...)
				tells(t, "Most twice, and Put", w, n+9, max(8, more), last(l, min(more, kept+9))...)
			}
		}
	}
}

// A number that was set ahead of all bytes counts, and so does one that is set between two Cuts.
func TestMostOfAnEmptyOne(t *testing.T) {
	w := opened(t, 9)
	is(t, "Most(2)", w.Most(2), api.OK)
	w.Put(1, 2, 3)
	tells(t, "Put", w, 3, 9, 2, 3)
	w.Cut()
	is(t, "Most(4)", w.Most(4), api.OK)
	w.Cut()
	w.Put(1, 2, 3, 4, 5)
	tells(t, "Put behind Cut", w, 5, 4, 2, 3, 4, 5)
}

// P14.1: Cut.

func TestCut(t *testing.T) {
	for most := 1; most <= 6; most++ {
		for n := range 20 {
			w := opened(t, most)
			w.Put(upTo(n)...)
			w.Cut()
			tells(t, "Cut", w, 0, most)
			w.Cut()
			tells(t, "Cut twice", w, 0, most)
			is(t, "Most", w.Most(30), api.OK)
			tells(t, "Cut, of a greater number", w, 0, 30) // what came ahead of a Cut comes back no more
			is(t, "Most", w.Most(most), api.OK)
			l := upTo(50)[20:]
			for i := range l {
				w.Put(l[i])
				tells(t, "Put behind Cut", w, i+1, 30, last(l[:i+1], most)...)
			}
		}
	}
}

// Behind a Cut that is within a text, its bytes begin behind the Cut, not ahead of it.
func TestCutBetweenBytes(t *testing.T) {
	for most := 1; most <= 5; most++ {
		for ahead := range 9 {
			for behind := range 9 {
				w := opened(t, most)
				l := upTo(ahead + behind)
				w.Put(l[:ahead]...)
				w.Cut()
				w.Put(l[ahead:]...)
				tells(t, "Cut between", w, behind, most, last(l[ahead:], most)...)
			}
		}
	}
}

// P14.2: Held.

func TestHeldBehindCutIsOfTheNumberThen(t *testing.T) {
	w := opened(t, 1000)
	w.Put(upTo(5000)...)
	is(t, "Most(2)", w.Most(2), api.OK)
	tells(t, "Most(2)", w, 5000, 1000, last(upTo(5000), 2)...)
	w.Cut()
	tells(t, "Cut", w, 0, 2)
	for i, l := 0, upTo(500); i < len(l); i++ {
		w.Put(l[i])
		tells(t, "Put behind Cut", w, i+1, 2, last(l[:i+1], 2)...)
	}
	is(t, "Most(5)", w.Most(5), api.OK)
	w.Put(upTo(5)...)
	is(t, "Most(2)", w.Most(2), api.OK)
	for i := range 500 {
		w.Put(1, 2)
		tells(t, "Put behind a greater number", w, 507+2*i, 5, 1, 2)
	}
}

func TestHeldOfAnyNumber(t *testing.T) {
	for _, most := range []int{1, 2, 3, 4, 5, 7, 8, 9, 15, 16, 17, 31, 32, 33, 63, 64, 65, 100, 127, 128, 129, 1000, 2000} {
		w := opened(t, most)
		for i := range 5*most + 3 {
			w.Put(byte(i))
			if n := w.Held(); n < min(i+1, most) || n > 2*most {
				t.Fatalf("of %d bytes, and a number of %d: Held %d", i+1, most, n)
			}
		}
	}
}

// inUse: how much memory is in use, when all that nobody has any more was let go.
func inUse() int {
	runtime.GC()
	runtime.GC()
	var m runtime.MemStats
	runtime.ReadMemStats(&m)
	return int(m.HeapAlloc)
}

// What Held tells is no pretence: the memory itself is at most twice the number, too, and behind a Cut the greater one is let go.
func TestMemory(t *testing.T) {
	const some, most, slack = 32, maxMatch / 4, 4 * maxMatch
	piece := upTo(997)
	before := inUse()
	var l [some]*window.Window
	for i := range l {
		l[i] = opened(t, most)
		for range 5 * most / len(piece) {
			l[i].Put(piece...)
		}
	}
	if n := inUse() - before; n > some*2*most+slack {
		t.Errorf("%d windows of %d: %d bytes of memory", some, most, n)
	}
	for _, w := range l {
		w.Most(1)
		w.Cut()
		w.Put(piece...)
	}
	if n := inUse() - before; n > slack {
		t.Errorf("%d windows of 1 that were cut: %d bytes of memory", some, n)
	}
	runtime.KeepAlive(l)
}

// A great number alone takes no memory.
func TestMemoryOfGreatNumbers(t *testing.T) {
	const some, slack = 200, 4 * maxMatch
	before := inUse()
	var l [some]*window.Window
	for i := range l {
		l[i] = opened(t, maxMatch)
		l[i].Put(1, 2, 3)
	}
	if n := inUse() - before; n > slack {
		t.Errorf("%d windows of a few bytes: %d bytes of memory", some, n)
	}
	runtime.KeepAlive(l)
}

// P14.3: the pieces make no difference.

// inPieces: bytes come in pieces of chance's, each one of at most so many.
func (c *chance) inPieces(w *window.Window, l []byte, most int) {
	for at := 0; at < len(l); {
		n := c.below(min(most, len(l)-at) + 1)
		w.Put(l[at : at+n]...)
		at += n
	}
}

func TestPieces(t *testing.T) {
	for seed := range 400 {
		c := chance(seed)
		most := 1 + c.below(30)
		a, b := opened(t, most), opened(t, most)
		for range 12 {
			l := upTo(c.below(100))
			c.inPieces(a, l, len(l))
			c.inPieces(b, l, 3)
			same(t, "Bytes in other pieces", a.Bytes(), b.Bytes()...)
			is(t, "Total in other pieces", a.Total(), b.Total())
			most = 1 + c.below(30)
			is(t, "Most", a.Most(most), b.Most(most))
			same(t, "Bytes of another number", a.Bytes(), b.Bytes()...)
		}
		if t.Failed() {
			t.Fatal("seed", seed)
		}
	}
}

func TestAllPiecesOfAShortText(t *testing.T) {
	l := []byte("abcdefgh")
	for most := 1; most <= len(l)+1; most++ {
		for cuts := range 1 << (len(l) - 1) {
			w := opened(t, most)
			at := 0
			for i := range l {
				if cuts>>i&1 == 1 || i == len(l)-1 {
					w.Put(l[at : i+1]...)
					at = i + 1
				}
			}
			tells(t, "in pieces", w, len(l), most, last(l, most)...)
		}
	}
}

// All of it: the package against the document's words.

func TestAllShortRows(t *testing.T) {
	all := []step{{'p', 1}, {'p', 2}, {'p', 3}, {'p', 7}, {'o', 3}, {'m', 1}, {'m', 2}, {'m', 3}, {'m', 6}, {'m', 0}, {'c', 0}}
	const deep = 4
	for _, most := range []int{1, 2, 3, 5} {
		row := make([]int, deep)
		for i := 0; i >= 0; {
			w, a := opened(t, most), newAsAsked(most)
			var next byte
			for at, k := range row {
				if !taken(w, a, all[k], &next) {
					t.Fatalf("of %d: %v, the step %d of %v: %v, wanted %v", most, all[k], at, row, w.Bytes(), a.bytes())
				}
			}
			for i = deep - 1; i >= 0 && row[i] == len(all)-1; i-- {
				row[i] = 0
			}
			if i >= 0 {
				row[i]++
			}
		}
	}
}

func TestLongRows(t *testing.T) {
	for seed := range 400 {
		c := chance(seed)
		size := []int{2, 3, 5, 16, 40, 200, 3000}[seed%7]
		most := 1 + c.below(size)
		w, a := opened(t, most), newAsAsked(most)
		var next byte
		for i := range 200 {
			s := step{"ppppppooooooommmmc"[c.below(18)], 0}
			switch s.do {
			case 'm':
				s.n = c.below(size+1) + c.below(20)/19*maxMatch
			case 'p', 'o':
				s.n = c.below(min(size, 100) * (1 + c.below(3)))
			case 'c':
				if c.below(3) > 0 {
					continue // else most rows would be short
				}
			}
			if !taken(w, a, s, &next) {
				t.Fatalf("size %d, seed %d, step %d: %v", size, seed, i, s)
			}
		}
	}
}

// A nil window, and P1: no call panics, and all end.

func TestNilWindow(t *testing.T) {
	var w *window.Window
	for range 2 {
		tells(t, "nil", w, 0, 0)
		w.Put()
		w.Put(1, 2, 3)
		w.Cut()
		for _, n := range append(wrong, 1, 2, maxMatch) {
			if e := w.Most(n); e != noWindow || e.Error() != "error 1" { // ahead of a number that may not be
				t.Errorf("Most(%d): %v", n, e)
			}
		}
	}
}

func TestOneByOneInAGreatOne(t *testing.T) {
	inTime(t, "one by one", func() {
		w := opened(t, maxMatch)
		for i := range 6 * maxMatch {
			w.Put(byte(i))
		}
		is(t, "Total", w.Total(), 6*maxMatch)
		is(t, "Held", w.Held() <= 2*maxMatch, true)
		is(t, "how many bytes", len(w.Bytes()), maxMatch)
	})
}

// However its number changes meanwhile, its bytes aren't copied at each byte that comes.
func TestNumbersThatChangeInAGreatOne(t *testing.T) {
	for name, number := range map[string]func(i int) int{
		"the same":   func(i int) int { return maxMatch },
		"two":        func(i int) int { return maxMatch - i%2 },
		"rising":     func(i int) int { return min(maxMatch, maxMatch/4+i) },
		"falling":    func(i int) int { return maxMatch - min(i, maxMatch/2) },
		"far apart":  func(i int) int { return []int{maxMatch, 1}[i/maxMatch%2] },
		"up, at 0":   func(i int) int { return 1 + i%maxMatch },
		"and slowly": func(i int) int { return maxMatch/2 + i/3%(maxMatch/2) },
	} {
		inTime(t, name, func() {
			w := opened(t, maxMatch)
			w.Put(make([]byte, maxMatch)...)
			for i := range 3 * maxMatch {
				w.Most(number(i))
				w.Put(byte(i))
			}
			is(t, name+": Total", w.Total(), 4*maxMatch)
			is(t, name+": the last byte", last(w.Bytes(), 1)[0], byte(255))
		})
	}
}

func TestCutAtEachByteOfAGreatOne(t *testing.T) {
	inTime(t, "Cut", func() {
		w := opened(t, maxMatch)
		for i := range 3 * maxMatch {
			w.Put(byte(i))
			w.Cut()
		}
		tells(t, "Cut at each byte", w, 0, maxMatch)
	})
}

// P2: windows that were made apart.

func TestWindowsAreApart(t *testing.T) {
	a, b := opened(t, 3), opened(t, 3)
	l := []byte{1, 2, 3, 4}
	a.Put(l...)
	tells(t, "the other one", b, 0, 3)
	b.Put(l[1:]...)
	b.Put(9)
	tells(t, "the one", a, 4, 3, 2, 3, 4)
	a.Most(1)
	a.Cut()
	tells(t, "the other one", b, 4, 3, 3, 4, 9)
	b.Put(5)
	tells(t, "the other one", b, 5, 3, 4, 9, 5)
	tells(t, "the one", a, 0, 1)
	a.Put(b.Bytes()...)
	b.Put(6, 7, 8)
	tells(t, "the one", a, 3, 1, 5)
}

// Rule 4: what is handed in, and what is answered.

// spoil: whoever has a list may do anything to its memory, also to what lies behind its length.
func spoil(l []byte) {
	l = l[:cap(l)]
	for i := range l {
		l[i] = ^l[i]
	}
}

func TestPutKeepsAndChangesNothingOfItsList(t *testing.T) {
	for most := 1; most <= 9; most++ {
		whole := []byte{1, 2, 3, 4, 5, 6}
		w := opened(t, most)
		w.Put(whole[1:4]...) // with bytes ahead of it, and behind it in its memory
		w.Put(10, 11)
		same(t, "what was handed in, and lies around it", whole, 1, 2, 3, 4, 5, 6)
		spoil(whole)
		tells(t, "Put", w, 5, most, last([]byte{2, 3, 4, 10, 11}, most)...)
		w.Put(12, 13, 14)
		tells(t, "Put", w, 8, most, last([]byte{2, 3, 4, 10, 11, 12, 13, 14}, most)...)
	}
}

func TestBytesAreNewMemory(t *testing.T) {
	for most := 1; most <= 9; most++ {
		w := opened(t, most)
		l := upTo(60)
		for i := range l {
			w.Put(l[i])
			want := last(l[:i+1], most)
			first, second := w.Bytes(), w.Bytes()
			spoil(first)
			same(t, "another answer", second, want...)
			spoil(second)
			tells(t, "spoilt answers", w, i+1, most, want...)
		}
	}
}

func TestNothingLiesBehindBytes(t *testing.T) {
	for most := 1; most <= 40; most++ {
		w := opened(t, most)
		for range 100 {
			w.Put(7)
			b := w.Bytes()
			for _, c := range b[len(b):cap(b)] {
				is(t, "a byte behind the answer", c, 0)
			}
		}
	}
}

func TestAnswersStayAsTheyAre(t *testing.T) {
	w := opened(t, 5)
	var kept, copies [][]byte
	for i := range 100 {
		w.Put(byte(i), byte(i+1), byte(3*i))
		if i%10 == 9 {
			w.Most(1 + i/10)
		}
		b := w.Bytes()
		kept, copies = append(kept, b), append(copies, slices.Clone(b))
	}
	w.Cut()
	w.Put(upTo(50)...)
	for i := range kept {
		same(t, "a kept answer", kept[i], copies[i]...)
	}
}

// Its own answer may be handed in.
func TestPutOfItsOwnBytes(t *testing.T) {
	w := opened(t, 4)
	w.Put(1, 2, 3)
	w.Put(w.Bytes()...)
	tells(t, "its own bytes", w, 6, 4, 3, 1, 2, 3)
	w.Put(w.Bytes()...)
	tells(t, "its own bytes again", w, 10, 4, 3, 1, 2, 3)
}

// Rule 7: asking changes nothing, and the same is answered again.
func TestAskingChangesNothing(t *testing.T) {
	a, b := opened(t, 3), opened(t, 3)
	for i := range 40 {
		a.Put(byte(i))
		b.Put(byte(i))
		for range 3 {
			tells(t, "asked often", a, i+1, 7, b.Bytes()...)
			is(t, "Held", a.Held(), b.Held())
		}
		if i%5 == 4 {
			a.Most(1 + i%7)
			b.Most(1 + i%7)
		}
	}
}
