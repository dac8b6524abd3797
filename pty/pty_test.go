package pty_test

import (
	"bytes"
	"fmt"
	"math"
	"slices"
	"testing"

	"cuecard/api"
	"cuecard/pty"
	"cuecard/queue"
)

// The signatures are part of what is asked: a change of one must not build.
var (
	_ func(int) (*pty.Pty, api.Errno)  = pty.New
	_ func(*pty.Pty, int, ...byte) int = (*pty.Pty).Write
	_ func(*pty.Pty, int, int) []byte  = (*pty.Pty).Read
	_ func(*pty.Pty, int)              = (*pty.Pty).Hang
	_ func(*pty.Pty, int) bool         = (*pty.Pty).Over
	_ func(*pty.Pty, int) int          = (*pty.Pty).Waits
	_ func(*pty.Pty, int) int          = (*pty.Pty).Room
)

const (
	mostRoom   = 65536 // MaxRoom, by its number
	outOfRange = 3     // ErrRange, by its number
)

// noSides: numbers that are no side's; the greater ones are even or odd, and 0 or 1 in their last bytes.
var noSides = []int{-1, -2, -3, 2, 3, 4, 5, 255, 256, 257, math.MaxInt32, 1 << 32, 1<<32 + 1, math.MinInt32, math.MinInt, math.MinInt + 1, math.MaxInt - 1, math.MaxInt}

func opened(t *testing.T, room int) *pty.Pty {
	t.Helper()
	p, e := pty.New(room)
	if p == nil || e != api.OK {
		t.Fatalf("New(%d): %v, %v", room, p, e)
	}
	return p
}

func is[T comparable](t *testing.T, what string, got, want T) {
	t.Helper()
	if got != want {
		t.Errorf("%s: %v, wanted %v", what, got, want)
	}
}

func same(t *testing.T, what string, got []byte, want ...byte) {
	t.Helper()
	if !bytes.Equal(got, want) {
		t.Errorf("%s: %v, wanted %v", what, got, want)
	}
}

// told: all that a side is told of without a change: how many bytes it may read and write, and whether none come any more.
type told struct {
	waits, room int
	over        bool
}

func asked(p *pty.Pty, side int) told { return told{p.Waits(side), p.Room(side), p.Over(side)} }

// tells: what the sides 0 and 1 are told, in this order; and that no other one is told anything.
func tells(t *testing.T, what string, p *pty.Pty, zero, one told) {
	t.Helper()
	is(t, what+": side 0", asked(p, 0), zero)
	is(t, what+": side 1", asked(p, 1), one)
	for _, side := range []int{-1, 2, math.MinInt, math.MaxInt} {
		is(t, what+": no side", asked(p, side), told{})
	}
}

func upTo(n int) []byte {
	l := make([]byte, n)
	for i := range l {
		l[i] = byte(i*7 + i>>8)
	}
	return l
}

// chance: numbers that look like chance's, and are the same in each run.
type chance uint64

func (c *chance) next() uint64 {
	*c = *c*6364136223846793005 + 1442695040888963407
	return uint64(*c >> 33)
}

func (c *chance) below(n int) int { return int(c.next() % uint64(n)) }

// P6.1: New.

func TestNewRefuses(t *testing.T) {
	for _, room := range []int{math.MinInt, math.MinInt32, -mostRoom, -2, -1, 0, mostRoom + 1, mostRoom + 2, 2 * mostRoom, math.MaxInt32, 1<<32 + 1, math.MaxInt} {
		p, e := pty.New(room)
		if p != nil || e != outOfRange || e.Error() != "error 3" {
			t.Errorf("New(%d): %v, %v", room, p, e)
		}
		if _, asked := queue.New[byte](room); e != asked {
			t.Errorf("New(%d): %v, and layer 1's %v", room, e, asked)
		}
	}
}

func TestNewHasNothingOnItsWay(t *testing.T) {
	for _, room := range []int{1, 2, 3, 100, mostRoom - 1, mostRoom} {
		p := opened(t, room)
		tells(t, "new", p, told{0, room, false}, told{0, room, false})
		for side := range 2 {
			same(t, "Read", p.Read(side, room))
		}
		tells(t, "new, and read", p, told{0, room, false}, told{0, room, false})
	}
}

func TestLeastAndGreatestRoom(t *testing.T) {
	for _, room := range []int{1, mostRoom} {
		for side := range 2 {
			p := opened(t, room)
			l := upTo(room + 2)
			is(t, "Write of too many", p.Write(side, l...), room)
			is(t, "Room", p.Room(side), 0)
			is(t, "Waits", p.Waits(1-side), room)
			is(t, "Write on a full one", p.Write(side, 1), 0)
			is(t, "Room of the other way", p.Room(1-side), room)
			is(t, "Write of the other way", p.Write(1-side, l[1:]...), room)
			same(t, "Read", p.Read(1-side, room+2), l[:room]...)
			same(t, "Read of the other way", p.Read(side, math.MaxInt), l[1:room+1]...)
			tells(t, "read", p, told{0, room, false}, told{0, room, false})
		}
	}
}

// P6.1 and P6.2: Write, Read, Hang, and what is told ahead of and behind them.

func TestExample(t *testing.T) {
	p := opened(t, 3)
	is(t, "Write(0, 1, 2, 3, 4)", p.Write(0, 1, 2, 3, 4), 3)
	same(t, "Read(1, 2)", p.Read(1, 2), 1, 2)
	p.Hang(0)
	is(t, "Over(1)", p.Over(1), false)
	same(t, "Read(1, 9)", p.Read(1, 9), 3)
	is(t, "Over(1)", p.Over(1), true)
}

func TestExampleWithAllThatIsTold(t *testing.T) {
	p := opened(t, 3)
	tells(t, "new", p, told{0, 3, false}, told{0, 3, false})
	p.Write(0, 1, 2, 3, 4)
	tells(t, "behind Write", p, told{0, 0, false}, told{3, 3, false})
	p.Read(1, 2)
	tells(t, "behind Read", p, told{0, 2, false}, told{1, 3, false})
	p.Hang(0)
	tells(t, "behind Hang", p, told{0, 0, false}, told{1, 3, false})
	p.Read(1, 9)
	tells(t, "read to the end", p, told{0, 0, false}, told{0, 3, true})
}

// The same from the other side: nothing is a side's own but its number.
func TestExampleFromTheOtherSide(t *testing.T) {
	p := opened(t, 3)
	is(t, "Write(1, 1, 2, 3, 4)", p.Write(1, 1, 2, 3, 4), 3)
	tells(t, "behind Write", p, told{3, 3, false}, told{0, 0, false})
	same(t, "Read(0, 2)", p.Read(0, 2), 1, 2)
	tells(t, "behind Read", p, told{1, 3, false}, told{0, 2, false})
	p.Hang(1)
	tells(t, "behind Hang", p, told{1, 3, false}, told{0, 0, false})
	same(t, "Read(0, 9)", p.Read(0, 9), 3)
	tells(t, "read to the end", p, told{0, 3, true}, told{0, 0, false})
}

func TestBothWaysAtOnce(t *testing.T) {
	p := opened(t, 4)
	is(t, "Write(0)", p.Write(0, 1, 2, 3), 3)
	is(t, "Write(1)", p.Write(1, 10, 20), 2)
	tells(t, "both wrote", p, told{2, 1, false}, told{3, 2, false})
	same(t, "Read(0)", p.Read(0, 1), 10)
	same(t, "Read(1)", p.Read(1, 2), 1, 2)
	tells(t, "both read", p, told{1, 3, false}, told{1, 3, false})
	p.Hang(1)
	tells(t, "1 hung", p, told{1, 3, false}, told{1, 0, false})
	is(t, "Write(0) behind Hang(1)", p.Write(0, 4, 5, 6, 7), 3)
	same(t, "Read(1) behind Hang(1)", p.Read(1, 9), 3, 4, 5, 6)
	same(t, "Read(0)", p.Read(0, 9), 20)
	tells(t, "all read", p, told{0, 4, true}, told{0, 0, false})
	p.Hang(0)
	tells(t, "both hung", p, told{0, 0, true}, told{0, 0, true})
}

func TestNobodyReadsWhatHeWrote(t *testing.T) {
	for side := range 2 {
		p := opened(t, 3)
		p.Write(side, 1, 2)
		same(t, "Read of the same side", p.Read(side, 9))
		is(t, "Waits of the same side", p.Waits(side), 0)
		is(t, "Waits of the other side", p.Waits(1-side), 2)
		is(t, "Room of the other side", p.Room(1-side), 3)
		same(t, "Read of the other side", p.Read(1-side, 9), 1, 2)
		same(t, "Read once more", p.Read(1-side, 9))
	}
}

func TestHowManyAreWritten(t *testing.T) {
	for _, c := range []struct {
		ahead, list []byte
		want        int
	}{
		{nil, nil, 0}, {nil, []byte{}, 0}, {nil, []byte{0}, 1}, {nil, []byte{1, 2, 3}, 3}, {nil, []byte{1, 2, 3, 4}, 4},
		{nil, []byte{1, 2, 3, 4, 5}, 4}, {nil, upTo(1000), 4},
		{[]byte{9}, nil, 0}, {[]byte{9}, []byte{1, 2, 3}, 3}, {[]byte{9}, []byte{1, 2, 3, 4}, 3},
		{[]byte{9, 8, 7, 6}, nil, 0}, {[]byte{9, 8, 7, 6}, []byte{1}, 0}, {[]byte{9, 8, 7, 6}, upTo(100), 0},
	} {
		for side := range 2 {
			p := opened(t, 4)
			p.Write(side, c.ahead...)
			what := fmt.Sprintf("side %d, %v and %d bytes", side, c.ahead, len(c.list))
			is(t, what, p.Write(side, c.list...), c.want)
			waits := len(c.ahead) + c.want
			is(t, what+": who wrote", asked(p, side), told{0, 4 - waits, false})
			is(t, what+": who reads", asked(p, 1-side), told{waits, 4, false})
			same(t, what+": Read", p.Read(1-side, 9), slices.Concat(c.ahead, c.list[:c.want])...)
		}
	}
}

func TestHowManyAreRead(t *testing.T) {
	for _, n := range []int{math.MinInt, -mostRoom, -2, -1, 0, 1, 2, 3, 4, mostRoom + 1, math.MaxInt32, math.MaxInt} {
		for _, hung := range []bool{false, true} {
			for side := range 2 {
				p := opened(t, 5)
				p.Write(side, 5, 6, 7)
				p.Write(1-side, 100)
				room := 5
				if hung {
					p.Hang(side)
					room = 0
				}
				want := max(0, min(n, 3))
				what := fmt.Sprintf("side %d, Read of %d, hung %v", side, n, hung)
				same(t, what, p.Read(1-side, n), []byte{5, 6, 7}[:want]...)
				is(t, what+": who reads", asked(p, 1-side), told{3 - want, 4, hung && want == 3})
				is(t, what+": who wrote", asked(p, side), told{1, max(0, room-3+want), false})
				same(t, what+": the rest", p.Read(1-side, 9), []byte{5, 6, 7}[want:]...)
				same(t, what+": the other way", p.Read(side, 9), 100)
			}
		}
	}
}

func TestReadOfNothing(t *testing.T) {
	p := opened(t, 2)
	for _, n := range []int{math.MinInt, -1, 0, 1, 2, 3, math.MaxInt} {
		same(t, "Read(0)", p.Read(0, n))
		same(t, "Read(1)", p.Read(1, n))
	}
	tells(t, "open", p, told{0, 2, false}, told{0, 2, false})
	p.Hang(0)
	p.Hang(1)
	for _, n := range []int{math.MinInt, -1, 0, 1, math.MaxInt} {
		same(t, "Read(0) when over", p.Read(0, n))
		same(t, "Read(1) when over", p.Read(1, n))
	}
	tells(t, "over", p, told{0, 0, true}, told{0, 0, true})
}

func TestHang(t *testing.T) {
	for side := range 2 {
		p := opened(t, 3)
		p.Write(side, 1, 2)
		p.Hang(side)
		for range 2 {
			is(t, "who hung", asked(p, side), told{0, 0, false})
			is(t, "who reads", asked(p, 1-side), told{2, 3, false})
			is(t, "Write behind Hang", p.Write(side, 9), 0)
			is(t, "Write of nothing behind Hang", p.Write(side), 0)
			p.Hang(side)
		}
		same(t, "Read behind Hang", p.Read(1-side, 1), 1)
		is(t, "Over while one waits", p.Over(1-side), false)
		is(t, "Room behind Hang, and Read", p.Room(side), 0)
		is(t, "Write behind Hang, and Read", p.Write(side, 9), 0)
		same(t, "Read of the last one", p.Read(1-side, 1), 2)
		is(t, "who reads, when over", asked(p, 1-side), told{0, 3, true})
		p.Hang(side)
		is(t, "Write when over", p.Write(side, 9), 0)
		same(t, "Read when over", p.Read(1-side, 1))
		is(t, "who reads, for good", asked(p, 1-side), told{0, 3, true})
		is(t, "who hung, for good", asked(p, side), told{0, 0, false})
	}
}

func TestHangOfAnEmptyWay(t *testing.T) {
	for side := range 2 {
		p := opened(t, 3)
		p.Hang(side)
		is(t, "who reads", asked(p, 1-side), told{0, 3, true})
		is(t, "who hung", asked(p, side), told{0, 0, false})
		is(t, "Write of the other side", p.Write(1-side, 1, 2, 3, 4), 3)
		same(t, "Read of who hung", p.Read(side, 9), 1, 2, 3)
	}
}

func TestHangOfAFullWay(t *testing.T) {
	for side := range 2 {
		p := opened(t, 2)
		p.Write(side, 1, 2)
		p.Hang(side)
		is(t, "who reads", asked(p, 1-side), told{2, 2, false})
		same(t, "Read", p.Read(1-side, 1), 1)
		is(t, "Write where there was room", p.Write(side, 3), 0)
		same(t, "Read", p.Read(1-side, 9), 2)
		is(t, "who reads, at the end", asked(p, 1-side), told{0, 2, true})
	}
}

func TestAnEmptyOpenWayIsNotOver(t *testing.T) {
	p := opened(t, 2)
	p.Write(0, 1, 2)
	p.Read(1, 2)
	tells(t, "read, and open", p, told{0, 2, false}, told{0, 2, false})
}

func TestEveryByte(t *testing.T) {
	for side := range 2 {
		p := opened(t, 256)
		var all []byte
		for c := range 256 {
			all = append(all, byte(c))
		}
		is(t, "Write", p.Write(side, all...), 256)
		same(t, "Read", p.Read(1-side, 256), all...)
	}
}

// A nil line, and sides that are none.

func TestNilLine(t *testing.T) {
	var p *pty.Pty
	for _, side := range append([]int{0, 1}, noSides...) {
		p.Hang(side)
		is(t, "Write", p.Write(side, 1, 2), 0)
		is(t, "Write of nothing", p.Write(side), 0)
		for _, n := range []int{math.MinInt, -1, 0, 1, math.MaxInt} {
			same(t, "Read", p.Read(side, n))
		}
		is(t, "told", asked(p, side), told{})
		p.Hang(side)
		is(t, "told behind Hang", asked(p, side), told{})
	}
}

func TestNoSide(t *testing.T) {
	for _, hung := range []bool{false, true} {
		p := opened(t, 4)
		p.Write(0, 1, 2)
		p.Write(1, 10)
		zero, one := told{1, 2, false}, told{2, 3, false}
		if hung {
			p.Hang(0)
			p.Hang(1)
			zero.room, one.room = 0, 0
		}
		for _, side := range noSides {
			what := fmt.Sprint("side ", side)
			is(t, what+": Write", p.Write(side, 7, 8), 0)
			is(t, what+": Write of nothing", p.Write(side), 0)
			for _, n := range []int{math.MinInt, -1, 0, 1, 2, math.MaxInt} {
				same(t, what+": Read", p.Read(side, n))
			}
			p.Hang(side)
			is(t, what, asked(p, side), told{})
			tells(t, what, p, zero, one)
		}
		same(t, "Read(0)", p.Read(0, 9), 10)
		same(t, "Read(1)", p.Read(1, 9), 1, 2)
		for _, side := range noSides {
			p.Hang(side)
			is(t, "no side of an empty line", asked(p, side), told{})
		}
		is(t, "Over(0)", p.Over(0), hung)
		is(t, "Over(1)", p.Over(1), hung)
	}
}

// P6.1 and P6.2, against a line that is written from the chapter's words alone.

// asAsked: a line by the words: what each side wrote and the other one hasn't read, and who hung up.
type asAsked struct {
	room int
	way  map[int][]byte // by who reads it
	hung map[int]bool   // by who hung up
}

func newAsAsked(room int) *asAsked {
	return &asAsked{room: room, way: map[int][]byte{0: nil, 1: nil}, hung: map[int]bool{0: false, 1: false}}
}

// reader: who reads what a side writes.
func reader(side int) int {
	switch side {
	case 0:
		return 1
	case 1:
		return 0
	}
	panic("no side")
}

func (a *asAsked) knows(side int) bool { _, ok := a.hung[side]; return ok }

func (a *asAsked) roomOf(side int) int {
	if !a.knows(side) || a.hung[side] {
		return 0
	}
	return a.room - len(a.way[reader(side)])
}

func (a *asAsked) write(side int, b []byte) int {
	n := 0
	for _, c := range b {
		if a.roomOf(side) == 0 {
			break
		}
		a.way[reader(side)] = append(a.way[reader(side)], c)
		n++
	}
	return n
}

func (a *asAsked) read(side, n int) []byte {
	var got []byte
	for a.knows(side) && n > len(got) && len(a.way[side]) > 0 {
		got = append(got, a.way[side][0])
		a.way[side] = a.way[side][1:]
	}
	return got
}

func (a *asAsked) hang(side int) {
	if a.knows(side) {
		a.hung[side] = true
	}
}

func (a *asAsked) told(side int) told {
	if !a.knows(side) {
		return told{}
	}
	return told{len(a.way[side]), a.roomOf(side), a.hung[reader(side)] && len(a.way[side]) == 0}
}

// step: one call of a line: what 'w', 'r', 'h' say, of a side, with a number of bytes.
type step struct {
	do      byte
	side, n int
}

// both: a step on a line and on one as asked; whether they answered alike, and tell alike.
func both(p *pty.Pty, a *asAsked, s step, next *byte) bool {
	switch s.do {
	case 'w':
		l := make([]byte, s.n)
		for i := range l {
			*next++
			l[i] = *next
		}
		if p.Write(s.side, l...) != a.write(s.side, l) {
			return false
		}
	case 'r':
		if !bytes.Equal(p.Read(s.side, s.n), a.read(s.side, s.n)) {
			return false
		}
	case 'h':
		p.Hang(s.side)
		a.hang(s.side)
	}
	for side := -1; side <= 2; side++ {
		if asked(p, side) != a.told(side) {
			return false
		}
	}
	return true
}

// steps: all that are tried in the short rows below.
func steps() []step {
	var l []step
	for side := range 2 {
		l = append(l, step{'h', side, 0}, step{'r', side, 1}, step{'r', side, 9}, step{'w', side, 1}, step{'w', side, 3})
	}
	return append(l, step{'h', 2, 0}, step{'w', -1, 2}, step{'r', 3, 2})
}

func TestAllShortRows(t *testing.T) {
	all := steps()
	const deep = 4
	for _, room := range []int{1, 2, 4} {
		row := make([]int, deep)
		for {
			p, a := opened(t, room), newAsAsked(room)
			var next byte
			for i, k := range row {
				if !both(p, a, all[k], &next) {
					t.Fatalf("room %d: %v, the step %d of %v", room, all[k], i, row)
				}
			}
			i := deep - 1
			for i >= 0 && row[i] == len(all)-1 {
				row[i] = 0
				i--
			}
			if i < 0 {
				break
			}
			row[i]++
		}
	}
}

func TestLongRows(t *testing.T) {
	for seed := range 300 {
		c := chance(seed)
		room := []int{1, 2, 3, 7, 64, 1000, mostRoom}[seed%7]
		p, a := opened(t, room), newAsAsked(room)
		var next byte
		for i := range 200 {
			s := step{"wrwrwrwrwrwrwrwrwrh"[c.below(19)], c.below(4) - 1, c.below(min(room, 2000) + 3)}
			if s.do == 'h' && c.below(4) > 0 {
				continue // else most rows would end early
			}
			if !both(p, a, s, &next) {
				t.Fatalf("room %d, seed %d, step %d: %v", room, seed, i, s)
			}
		}
	}
}

// P6.3: what a side has read is a beginning of what the other one wrote; it is all of it, once Over.

func TestWhatIsReadIsABeginningOfWhatWasWritten(t *testing.T) {
	for seed := range 200 {
		c := chance(seed * 31)
		room := []int{1, 2, 5, 33, 500}[seed%5]
		p := opened(t, room)
		var wrote, read [2][]byte // by the side that did it
		check := func() {
			t.Helper()
			for side := range 2 {
				w, r := wrote[1-side], read[side]
				if !bytes.HasPrefix(w, r) || p.Over(side) && len(r) != len(w) || p.Waits(side) != len(w)-len(r) {
					t.Fatalf("room %d, seed %d, side %d: wrote %v, read %v, waits %d, over %v", room, seed, side, w, r, p.Waits(side), p.Over(side))
				}
			}
		}
		for range 300 {
			side, n := c.below(2), c.below(room+3)
			switch c.below(40) {
			case 0:
				if c.below(4) == 0 {
					p.Hang(side)
				}
			case 1:
				p.Hang(c.below(5) + 2)
			default:
				if c.below(2) == 0 {
					l := make([]byte, n)
					for i := range l {
						l[i] = byte(c.next())
					}
					wrote[side] = append(wrote[side], l[:p.Write(side, l...)]...)
				} else {
					read[side] = append(read[side], p.Read(side, n-1)...)
				}
			}
			check()
		}
		for side := range 2 {
			p.Hang(1 - side)
			for !p.Over(side) {
				l := p.Read(side, 1+c.below(room))
				if len(l) == 0 {
					t.Fatal("nothing comes, and it isn't over")
				}
				read[side] = append(read[side], l...)
				check()
			}
			same(t, "all of it", read[side], wrote[1-side]...)
		}
	}
}

func TestOverMeansThatAllWasRead(t *testing.T) {
	for side := range 2 {
		p := opened(t, 100)
		l := upTo(90)
		p.Write(side, l...)
		p.Hang(side)
		var got []byte
		for range 13 { // by sevens
			is(t, "Over", p.Over(1-side), false)
			got = append(got, p.Read(1-side, 7)...)
			is(t, "Over", p.Over(1-side), len(got) == len(l))
		}
		same(t, "all", got, l...)
	}
}

// P6.3: one way plays no part for the other one: whatever is done on the one, on the other all is told as if it weren't.
func TestWaysAreApart(t *testing.T) {
	for seed := range 200 {
		c := chance(seed*77 + 5)
		room := []int{1, 2, 5, 33}[seed%4]
		way := seed % 2 // by the side that writes it
		busy, quiet := opened(t, room), opened(t, room)
		tell := func(p *pty.Pty) told { return told{p.Waits(1 - way), p.Room(way), p.Over(1 - way)} }
		for i := range 200 {
			n := c.below(room + 3)
			switch c.below(9) {
			case 0:
				if c.below(12) == 0 {
					busy.Hang(way)
					quiet.Hang(way)
				}
			case 1, 2:
				l := upTo(n + i)[i:]
				is(t, "Write", busy.Write(way, l...), quiet.Write(way, l...))
			case 3, 4:
				same(t, "Read", busy.Read(1-way, n), quiet.Read(1-way, n)...)
			case 5, 6:
				busy.Write(1-way, upTo(n)...)
			case 7:
				busy.Read(way, n)
			case 8:
				if c.below(12) == 0 {
					busy.Hang(1 - way)
				}
			}
			is(t, "told of the way", tell(busy), tell(quiet))
			is(t, "told of the quiet one", told{quiet.Waits(way), quiet.Room(1 - way), quiet.Over(way)}, told{0, room, false})
			if t.Failed() {
				t.Fatalf("room %d, seed %d, step %d", room, seed, i)
			}
		}
	}
}

// A great line that stays full is used one by one, for long enough that its memory is laid anew several times.
func TestOneByOneOnAGreatLine(t *testing.T) {
	p := opened(t, mostRoom)
	at := func(i int) byte { return byte(i ^ i>>8) }
	for i := range mostRoom {
		if p.Write(0, at(i)) != 1 || p.Write(1, ^at(i)) != 1 {
			t.Fatal(i)
		}
	}
	for i := range 3 * mostRoom {
		a, b := p.Read(1, 1), p.Read(0, 1)
		if len(a) != 1 || len(b) != 1 || a[0] != at(i) || b[0] != ^at(i) || p.Write(0, at(i+mostRoom), 0) != 1 || p.Write(1, ^at(i+mostRoom), 0) != 1 {
			t.Fatal(i, a, b)
		}
	}
	tells(t, "full", p, told{mostRoom, 0, false}, told{mostRoom, 0, false})
}

// P2: lines that were made apart.

func TestLinesAreApart(t *testing.T) {
	a, b := opened(t, 3), opened(t, 3)
	l := []byte{1, 2}
	a.Write(0, l...)
	a.Write(1, l...)
	tells(t, "the other one", b, told{0, 3, false}, told{0, 3, false})
	b.Write(0, l...)
	b.Write(0, 7)
	tells(t, "one", a, told{2, 1, false}, told{2, 1, false})
	a.Hang(0)
	a.Read(1, 9)
	a.Hang(1)
	a.Read(0, 1)
	tells(t, "one, hung", a, told{1, 0, false}, told{0, 0, true})
	tells(t, "the other one, open", b, told{0, 0, false}, told{3, 3, false})
	same(t, "Read of the other one", b.Read(1, 9), 1, 2, 7)
	same(t, "Read of one", a.Read(0, 9), 2)
}

// Rule 4: what is handed in, and what is answered.

// spoil: whoever has a list may do anything to its memory, also to what lies behind its length.
func spoil(l []byte) {
	l = l[:cap(l)]
	for i := range l {
		l[i] = ^l[i]
	}
}

func TestWriteKeepsAndChangesNothingOfItsList(t *testing.T) {
	for _, room := range []int{1, 2, 3, 9} {
		for side := range 2 {
			whole := []byte{1, 2, 3, 4, 5, 6}
			p := opened(t, room)
			n := p.Write(side, whole[1:4]...) // with bytes ahead of it, and behind it in its memory
			p.Write(side, 10, 11)
			same(t, "Read", p.Read(1-side, 1), 2)
			p.Write(side, 12, 13)
			same(t, "what was handed in, and lies around it", whole, 1, 2, 3, 4, 5, 6)
			want := slices.Concat(whole[2:1+n], []byte{10, 11}[:min(2, room-n)])
			want = append(want, []byte{12, 13}[:min(2, room-len(want))]...)
			spoil(whole)
			same(t, "what still comes", p.Read(1-side, 99), want...)
		}
	}
}

func TestWriteBothWaysOfOneList(t *testing.T) {
	p := opened(t, 4)
	l := []byte{1, 2, 3}
	p.Write(0, l...)
	p.Write(1, l...)
	spoil(p.Read(1, 2))
	same(t, "the other way", p.Read(0, 2), 1, 2)
	spoil(l)
	same(t, "Read(1)", p.Read(1, 9), 3)
	same(t, "Read(0)", p.Read(0, 9), 3)
}

func TestReadIsNewMemory(t *testing.T) {
	for side := range 2 {
		p := opened(t, 8)
		l := []byte{1, 2, 3, 4, 5, 6}
		p.Write(side, l...)
		p.Write(1-side, 100, 101)
		first := p.Read(1-side, 2)
		second := p.Read(1-side, 2)
		spoil(first)
		same(t, "what was handed in", l, 1, 2, 3, 4, 5, 6)
		same(t, "another answer", second, 3, 4)
		spoil(second)
		p.Write(side, 7, 8, 9)
		same(t, "the rest", p.Read(1-side, 9), 5, 6, 7, 8, 9)
		same(t, "the other way", p.Read(side, 9), 100, 101)
	}
}

func TestReadOfAllIsNewMemory(t *testing.T) {
	p := opened(t, 4)
	p.Write(0, 1, 2, 3, 4)
	all := p.Read(1, 4)
	p.Write(0, 5, 6, 7, 8)
	same(t, "what was read ahead of a Write", all, 1, 2, 3, 4)
	spoil(all)
	same(t, "what was written behind it", p.Read(1, 4), 5, 6, 7, 8)
}

func TestAnswersStayAsTheyAre(t *testing.T) {
	p := opened(t, 6)
	p.Write(0, 1, 2, 3, 4, 5, 6)
	first, second := p.Read(1, 3), p.Read(1, 1)
	for i := range 200 {
		p.Write(0, byte(i), byte(i+1), byte(i+2))
		p.Write(1, byte(i), byte(i))
		p.Read(1, 2)
		p.Read(0, 2)
	}
	p.Hang(0)
	p.Hang(1)
	p.Read(1, 99)
	same(t, "the first answer", first, 1, 2, 3)
	same(t, "the second one", second, 4)
}

// Each answer of a long row is kept and spoilt: none of it is ever seen again, and none changes.
func TestNothingIsSharedInLongRows(t *testing.T) {
	for seed := range 60 {
		c := chance(seed + 1000)
		room := 1 + c.below(20)
		p, a := opened(t, room), newAsAsked(room)
		var kept, copies [][]byte
		for range 150 {
			side, n := c.below(2), c.below(room+3)
			if c.below(2) == 0 {
				l := append(make([]byte, 0, n+c.below(4)), upTo(n)...)
				is(t, "Write", p.Write(side, l...), a.write(side, l))
				same(t, "what was handed in", l, upTo(n)...)
				spoil(l)
			} else {
				l := p.Read(side, n)
				same(t, "Read", l, a.read(side, n)...)
				if c.below(2) == 0 {
					spoil(l)
				} else {
					kept, copies = append(kept, l), append(copies, bytes.Clone(l))
				}
			}
		}
		for i := range kept {
			same(t, "a kept answer", kept[i], copies[i]...)
		}
		if t.Failed() {
			t.Fatalf("seed %d", seed)
		}
	}
}

// Rule 7: the same calls have the same answers, whatever other lines there are.
func TestAnswersHangOnTheLineAlone(t *testing.T) {
	run := func(noise bool) string {
		p, other := opened(t, 5), opened(t, 9)
		var s []byte
		for i := range 60 {
			if noise {
				other.Write(i%2, upTo(i%7)...)
				other.Read(i%2, i%5)
			}
			s = fmt.Append(s, p.Write(i%2, upTo(i%4)...), p.Read(i%3, i%6), asked(p, 0), asked(p, 1), ";")
		}
		return string(s)
	}
	is(t, "with another line in use", run(true), run(false))
}
