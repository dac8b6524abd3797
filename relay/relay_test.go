package relay_test

import (
	"bytes"
	"fmt"
	"math"
	"reflect"
	"slices"
	"testing"

	"cuecard/api"
	"cuecard/event"
	"cuecard/pty"
	"cuecard/relay"
	"cuecard/trans"
)

// The signatures are part of what is asked: a change of one must not build.
var (
	_ func(*pty.Pty, *pty.Pty) (*relay.Relay, api.Errno) = relay.New
	_ func(*relay.Relay, int, int, int64) bool           = (*relay.Relay).Step
	_ func(*relay.Relay, int) int                        = (*relay.Relay).Waits
	_ func(*relay.Relay) api.Transcript                  = (*relay.Relay).Transcript
	_ func(*relay.Relay) bool                            = (*relay.Relay).Done
)

// The kinds, the directions, the limits and the errors, by their numbers.
const (
	fromUser  = 0
	fromChild = 1
	toChild   = 2
	toUser    = 3
	out       = 0
	in        = 1
	mostRoom  = 65536
	maxData   = 65536
	maxEvents = 4096
	maxWhole  = 262144
	isNil     = 1
	wrong     = 2
	least     = math.MinInt64
	greatest  = math.MaxInt64
)

// Numbers of bytes that are none, or more than any line has.
var (
	tooFew  = []int{math.MinInt, math.MinInt32, -mostRoom, -2, -1, 0}
	tooMany = []int{mostRoom, mostRoom + 1, maxWhole, math.MaxInt32, 1 << 32, 1<<32 + 1, math.MaxInt - 1, math.MaxInt}
)

// noKinds and noDirs: numbers that are no kind's, or no direction's; some are like one's in their last bytes.
var (
	noKinds = []int{math.MinInt, math.MinInt + 1, math.MinInt32, -256, -4, -3, -2, -1, 4, 5, 6, 7, 8, 255, 256, 257, 258, 259, 1 << 32, 1<<32 + 1, 1<<32 + 2, 1<<32 + 3, math.MaxInt - 1, math.MaxInt}
	noDirs  = []int{math.MinInt, math.MinInt + 1, math.MinInt32, -256, -2, -1, 2, 3, 4, 255, 256, 257, 1 << 32, 1<<32 + 1, math.MaxInt - 1, math.MaxInt}
)

// session: a user's line and a child's, and a relay between them.
type session struct {
	t           *testing.T
	user, child *pty.Pty
	r           *relay.Relay
}

func write(p *pty.Pty, side int, text string) int { return p.Write(side, []byte(text)...) }

func line(t *testing.T, room int) *pty.Pty {
	t.Helper()
	p, e := pty.New(room)
	if p == nil || e != api.OK {
		t.Fatalf("a line of the room %d: %v, %v", room, p, e)
	}
	return p
}

func between(t *testing.T, user, child *pty.Pty) *session {
	t.Helper()
	r, e := relay.New(user, child)
	if r == nil || e != api.OK {
		t.Fatalf("New: %v, %v", r, e)
	}
	return &session{t, user, child, r}
}

func opened(t *testing.T, room int) *session {
	t.Helper()
	return between(t, line(t, room), line(t, room))
}

// way: a direction, and the kinds of the steps that read it, and hand it on.
type way struct {
	dir, read, hand int
}

var ways = []way{{out, fromChild, toUser}, {in, fromUser, toChild}}

// The far sides: who speaks in a direction, and who hears it.

func (s *session) speaker(dir int) (*pty.Pty, int) {
	if dir == out {
		return s.child, 1
	}
	return s.user, 0
}

func (s *session) hearer(dir int) (*pty.Pty, int) {
	if dir == out {
		return s.user, 0
	}
	return s.child, 1
}

func (s *session) say(dir int, text string) int {
	p, side := s.speaker(dir)
	return write(p, side, text)
}

func (s *session) hang(dir int) {
	p, side := s.speaker(dir)
	p.Hang(side)
}

func (s *session) hear(dir, n int) []byte {
	p, side := s.hearer(dir)
	return p.Read(side, n)
}

// deaf: whether who hears a direction is told that no more comes.
func (s *session) deaf(dir int) bool {
	p, side := s.hearer(dir)
	return p.Over(side)
}

// unread: how many bytes of a direction are on the line yet that the relay reads.
func (s *session) unread(dir int) int {
	p, side := s.speaker(dir)
	return p.Waits(1 - side)
}

func (s *session) step(kind, n int, time int64, want bool) {
	s.t.Helper()
	if got := s.r.Step(kind, n, time); got != want {
		s.t.Errorf("Step(%d, %d, %d): %v, wanted %v", kind, n, time, got, want)
	}
}

func (s *session) waits(wantOut, wantIn int) {
	s.t.Helper()
	is(s.t, "Waits(Out)", s.r.Waits(out), wantOut)
	is(s.t, "Waits(In)", s.r.Waits(in), wantIn)
	for _, dir := range []int{-1, 2, math.MinInt, math.MaxInt} {
		is(s.t, fmt.Sprintf("Waits(%d)", dir), s.r.Waits(dir), 0)
	}
}

// notes: that these events are noted, and no end of the child.
func (s *session) notes(want ...api.Event) {
	s.t.Helper()
	x := s.r.Transcript()
	if !event.Same(x.Events, want) || x.End {
		s.t.Errorf("Transcript: %v, %v, wanted %v", x.Events, x.End, want)
	}
	is(s.t, "Done", s.r.Done(), false)
}

// ends: that these events are noted, and the child's end.
func (s *session) ends(done bool, want ...api.Event) {
	s.t.Helper()
	x := s.r.Transcript()
	if !event.Same(x.Events, want) || !x.End {
		s.t.Errorf("Transcript: %v, %v, wanted %v and the end", x.Events, x.End, want)
	}
	is(s.t, "Done", s.r.Done(), done)
}

// view: all that is told of a session without a change.
type view struct {
	out, in   int
	done, end bool
	lines     [2][2][3]int // of each line, of each side: Waits, Room, Over
	events    string
}

func (s *session) view() view {
	x := s.r.Transcript()
	v := view{out: s.r.Waits(out), in: s.r.Waits(in), done: s.r.Done(), end: x.End}
	var told []byte
	for _, e := range x.Events {
		told = fmt.Appendf(told, "%d at %d: %q; ", e.Dir, e.Time, brief(e.Data))
	}
	v.events = string(told)
	for i, p := range []*pty.Pty{s.user, s.child} {
		for side := range 2 {
			v.lines[i][side] = [3]int{p.Waits(side), p.Room(side)}
			if p.Over(side) {
				v.lines[i][side][2] = 1
			}
		}
	}
	return v
}

// still: that a step does nothing, and nothing has changed.
func (s *session) still(what string, kind, n int, time int64) {
	s.t.Helper()
	before := s.view()
	if s.r.Step(kind, n, time) {
		s.t.Errorf("%s: Step(%d, %d, %d): true", what, kind, n, time)
	}
	if after := s.view(); after != before {
		s.t.Errorf("%s: Step(%d, %d, %d): %v, and %v ahead of it", what, kind, n, time, after, before)
	}
}

// brief: bytes as they are told of, great ones by their first ones and their number.
func brief(b []byte) string {
	if len(b) > 60 {
		return fmt.Sprint(string(b[:60]), len(b))
	}
	return string(b)
}

func ev(dir int, time int64, s string) api.Event {
	return api.Event{Dir: dir, Time: time, Data: []byte(s)}
}

func is[T comparable](t *testing.T, what string, got, want T) {
	t.Helper()
	if got != want {
		t.Errorf("%s: %v, wanted %v", what, got, want)
	}
}

func same(t *testing.T, what string, got []byte, want string) {
	t.Helper()
	if string(got) != want {
		t.Errorf("%s: %q, wanted %q", what, got, want)
	}
}

func upTo(n int) string {
	l := make([]byte, n)
	for i := range l {
		l[i] = byte(i*7 + i>>8)
	}
	return string(l)
}

// chance: numbers that look like chance's, and are the same in each run.
type chance uint64

func (c *chance) next() uint64 {
	*c = *c*6364136223846793005 + 1442695040888963407
	return uint64(*c >> 33)
}

func (c *chance) below(n int) int { return int(c.next() % uint64(n)) }

// P7.1: New.

func TestNewRefuses(t *testing.T) {
	a, b := line(t, 3), line(t, 3)
	a.Write(0, 1)
	for _, c := range []struct {
		what        string
		user, child *pty.Pty
		want        api.Errno
		text        string
	}{
		{"a nil user's line", nil, a, isNil, "error 1"},
		{"a nil child's line", a, nil, isNil, "error 1"},
		{"both nil, and so the same", nil, nil, isNil, "error 1"},
		{"the same line", a, a, wrong, "error 2"},
		{"the same line, and empty", b, b, wrong, "error 2"},
	} {
		r, e := relay.New(c.user, c.child)
		if r != nil || e != c.want || e.Error() != c.text {
			t.Errorf("%s: %v, %v", c.what, r, e)
		}
	}
	is(t, "Waits behind refusals", a.Waits(1), 1)
	for _, p := range []*pty.Pty{a, b} {
		is(t, "Over behind refusals", p.Over(0) || p.Over(1), false)
		is(t, "Room behind refusals", p.Room(1), 3)
	}
	s := between(t, a, b) // they still may be a relay's
	s.step(fromUser, 9, 1, true)
	s.notes(ev(in, 1, "\x01"))
}

func TestNewNotedNothing(t *testing.T) {
	s := opened(t, 4)
	s.waits(0, 0)
	s.notes()
	s = opened(t, 1)
	s.waits(0, 0)
	s.notes()
}

// What is on the lines when a relay is made stays there till it is read; their ends are not seen yet.
func TestNewOnLinesInUse(t *testing.T) {
	user, child := line(t, 4), line(t, 4)
	write(user, 0, "hi")
	write(child, 1, "yo")
	user.Write(1, 'u') // what the relay's own sides wrote is read by who is there
	child.Write(0, 'c')
	user.Hang(0)
	child.Hang(1)
	s := between(t, user, child)
	s.waits(0, 0)
	s.notes()
	is(t, "the user's bytes", s.unread(in), 2)
	is(t, "the child's bytes", s.unread(out), 2)
	s.step(fromUser, 9, 1, true)
	s.step(fromChild, 9, 2, true)
	s.notes(ev(in, 1, "hi"), ev(out, 2, "yo"))
	s.step(toUser, 9, 0, true)
	s.step(toChild, 9, 0, true)
	same(t, "the user hears", s.hear(out, 9), "uyo")
	same(t, "the child hears", s.hear(in, 9), "chi")
}

// P7.1: the examples.

func TestExample(t *testing.T) {
	s := opened(t, 9)
	is(t, "the user writes hi", write(s.user, 0, "hi"), 2)
	s.step(0, 1, 5, true)
	s.notes(ev(in, 5, "h"))
	s.waits(0, 1)
	s.step(0, 1, 9, false)
	s.notes(ev(in, 5, "h"))
	s.waits(0, 1)
	is(t, "to the child, ahead of a step 2", s.child.Waits(1), 0)
	s.step(2, 9, 0, true)
	same(t, "to the child", s.child.Read(1, 9), "h")
	s.waits(0, 0)
	s.step(0, 9, 3, true)
	s.notes(ev(in, 5, "h"), ev(in, 5, "i"))
	s.waits(0, 1)
}

// The same from the child's side.
func TestExampleFromTheOtherSide(t *testing.T) {
	s := opened(t, 9)
	is(t, "the child writes hi", write(s.child, 1, "hi"), 2)
	s.step(1, 1, 5, true)
	s.notes(ev(out, 5, "h"))
	s.waits(1, 0)
	s.step(1, 1, 9, false)
	is(t, "to the user, ahead of a step 3", s.user.Waits(0), 0)
	s.step(3, 9, 0, true)
	same(t, "to the user", s.user.Read(0, 9), "h")
	s.waits(0, 0)
	s.step(1, 9, 3, true)
	s.notes(ev(out, 5, "h"), ev(out, 5, "i"))
	s.waits(1, 0)
}

// P7.1: a nil relay, and numbers that are no kind's or direction's.

func TestNilRelay(t *testing.T) {
	var r *relay.Relay
	for _, kind := range append([]int{0, 1, 2, 3}, noKinds...) {
		for _, n := range append(slices.Concat(tooFew, tooMany), 1) {
			for _, time := range []int64{least, 0, greatest} {
				is(t, "Step", r.Step(kind, n, time), false)
			}
		}
	}
	for _, dir := range append([]int{out, in}, noDirs...) {
		is(t, "Waits", r.Waits(dir), 0)
	}
	x := r.Transcript()
	if len(x.Events) != 0 || x.End {
		t.Error("Transcript:", x)
	}
	is(t, "Done", r.Done(), false)
}

func TestOtherKindsDoNothing(t *testing.T) {
	s := opened(t, 4)
	tryAll := func(what string) {
		t.Helper()
		for _, kind := range noKinds {
			for _, n := range []int{math.MinInt, -1, 0, 1, 2, math.MaxInt} {
				s.still(what, kind, n, 7)
			}
		}
	}
	tryAll("nothing there")
	s.say(out, "ab")
	s.say(in, "cd")
	tryAll("bytes to read")
	s.step(fromChild, 1, 2, true)
	s.step(fromUser, 1, 2, true)
	tryAll("bytes that wait")
	s.step(toUser, 1, 2, true)
	s.step(toChild, 1, 2, true)
	s.hang(out)
	s.hang(in)
	tryAll("hung lines")
	s.step(fromUser, 9, -1, true) // nor was the clock told of a time
	s.notes(ev(out, 2, "a"), ev(in, 2, "c"), ev(in, 2, "d"))
	s.step(toChild, 9, 2, true)
	s.hear(out, 9)
	s.hear(in, 9)
	tryAll("ends to see")
	s.step(fromUser, 9, 2, true)
	s.step(fromChild, 9, 2, true)
	s.step(toUser, 9, 2, true)
	s.step(fromChild, 9, 2, true)
	tryAll("all done")
	is(t, "Done", s.r.Done(), true)
}

func TestWaitsOfNoDirection(t *testing.T) {
	s := opened(t, 4)
	s.say(out, "abc")
	s.say(in, "d")
	s.step(fromChild, 9, 0, true)
	s.step(fromUser, 9, 0, true)
	for _, dir := range noDirs {
		is(t, fmt.Sprintf("Waits(%d)", dir), s.r.Waits(dir), 0)
	}
	s.waits(3, 1)
}

// P7.1: the steps 0 and 1.

func TestHowManyAreRead(t *testing.T) {
	for _, w := range ways {
		for _, n := range append(slices.Concat(tooFew, tooMany), 1, 2, 3, 4, 5, 6, 7) {
			s := opened(t, 5)
			s.say(w.dir, "abcde")
			s.say(1-w.dir, "xy")
			want := max(0, min(n, 5))
			before := s.view()
			s.step(w.read, n, 3, n > 0)
			if n < 1 {
				is(t, fmt.Sprint(n, " are read"), s.view(), before)
				continue
			}
			s.notes(ev(w.dir, 3, "abcde"[:want]))
			is(t, "Waits", s.r.Waits(w.dir), want)
			is(t, "left on the line", s.unread(w.dir), 5-want)
			is(t, "Waits of the other way", s.r.Waits(1-w.dir), 0)
			is(t, "left on the other line", s.unread(1-w.dir), 2)
			same(t, "heard ahead of being handed on", s.hear(w.dir, 9), "")
			same(t, "heard the other way", s.hear(1-w.dir, 9), "")
			s.step(w.hand, 9, 0, true)
			same(t, "heard", s.hear(w.dir, 9), "abcde"[:want])
		}
	}
}

func TestNothingIsReadWhileBytesWait(t *testing.T) {
	for _, w := range ways {
		s := opened(t, 5)
		s.say(w.dir, "abcde")
		s.step(w.read, 2, 1, true)
		for _, n := range append(slices.Concat(tooFew, tooMany), 1, 2) {
			s.still("two wait", w.read, n, 50)
		}
		s.step(w.hand, 1, 0, true)
		s.still("one waits", w.read, 9, 60)
		s.hang(w.dir)
		s.still("one waits, and the line is hung", w.read, 9, 70)
		s.step(w.hand, 1, 0, true)
		s.step(w.read, 9, -5, true) // the clock was told no time meanwhile
		s.notes(ev(w.dir, 1, "ab"), ev(w.dir, 1, "cde"))
		s.still("three wait at the line's end", w.read, 9, 80)
		s.step(w.hand, 9, 0, true)
		s.step(w.read, 1, 90, true)
		is(t, "heard to the end", string(s.hear(w.dir, 9))+fmt.Sprint(s.deaf(w.dir)), "abcdetrue")
	}
}

// What waits one way plays no part for what is read the other way.
func TestWhatWaitsTheOtherWayIsNoHindrance(t *testing.T) {
	for _, w := range ways {
		s := opened(t, 5)
		s.say(1-w.dir, "xyz")
		s.step(1-w.read, 2, 1, true)
		s.say(w.dir, "ab")
		s.step(w.read, 9, 2, true)
		s.notes(ev(1-w.dir, 1, "xy"), ev(w.dir, 2, "ab"))
		is(t, "Waits", s.r.Waits(w.dir), 2)
		is(t, "Waits of the other way", s.r.Waits(1-w.dir), 2)
	}
}

func TestNothingToReadOnALineThatIsNotOver(t *testing.T) {
	for _, w := range ways {
		s := opened(t, 3)
		for _, n := range append(slices.Concat(tooFew, tooMany), 1) {
			s.still("nothing to read", w.read, n, greatest)
		}
		s.say(w.dir, "a")
		s.step(w.read, 1, least, true) // the clock was told no time
		s.step(w.hand, 1, 0, true)
		s.still("all read", w.read, 1, greatest)
		s.say(w.dir, "b")
		s.step(w.read, 1, -3, true)
		s.notes(ev(w.dir, least, "a"), ev(w.dir, -3, "b"))
	}
}

// Only what a line's other end wrote is read, not what the relay wrote there itself.
func TestNobodyReadsWhatWasHandedOn(t *testing.T) {
	for _, w := range ways {
		s := opened(t, 5)
		s.say(w.dir, "ab")
		s.step(w.read, 9, 0, true)
		s.step(w.hand, 9, 0, true)
		s.still("handed on, and not heard yet", 1-w.read, 9, 0)
		s.still("all read", w.read, 9, 0)
		same(t, "heard", s.hear(w.dir, 9), "ab")
	}
}

func TestEveryByte(t *testing.T) {
	for _, w := range ways {
		s := opened(t, 256)
		all := upTo(256)
		s.say(w.dir, all)
		s.step(w.read, 256, 0, true)
		s.notes(ev(w.dir, 0, all))
		s.step(w.hand, 256, 0, true)
		same(t, "heard", s.hear(w.dir, 256), all)
	}
}

// P7.1: ends.

func TestTheUsersEnd(t *testing.T) {
	s := opened(t, 4)
	s.say(in, "q")
	s.hang(in)
	s.step(fromUser, 9, 1, true)
	is(t, "a byte ahead of the end: Over of the child", s.deaf(in), false)
	s.still("a byte waits", fromUser, 9, 1)
	s.step(toChild, 9, 0, true)
	is(t, "handed on: the child's Room to the relay", s.child.Room(0), 3)
	for _, n := range tooFew {
		s.still("n is below 1", fromUser, n, 1)
	}
	s.step(fromUser, 1, 100, true)
	s.notes(ev(in, 1, "q")) // nothing of the end
	s.waits(0, 0)
	is(t, "hung up on the child's line", s.child.Room(0), 0)
	same(t, "the child hears", s.hear(in, 9), "q")
	is(t, "Over of the child", s.deaf(in), true)
	is(t, "Over of the user", s.deaf(out), false)
	is(t, "the user's Room from the relay", s.user.Room(1), 4)
	is(t, "the child's Room", s.child.Room(1), 4)
	for _, n := range append(slices.Concat(tooFew, tooMany), 1) {
		s.still("seen", fromUser, n, 200)
		s.still("seen, and nothing waits", toChild, n, 200)
	}
	s.say(out, "abc") // the child goes on
	s.step(fromChild, 2, 50, true)
	s.step(toUser, 9, 0, true)
	s.step(fromChild, 9, 60, true)
	s.notes(ev(in, 1, "q"), ev(out, 50, "ab"), ev(out, 60, "c")) // at the end's time the clock was told nothing
	same(t, "the user hears", s.hear(out, 9), "ab")
}

func TestTheChildsEnd(t *testing.T) {
	s := opened(t, 4)
	s.say(out, "q")
	s.say(in, "xyz")
	s.step(fromUser, 2, 1, true)
	s.hang(out)
	s.step(fromChild, 9, 2, true)
	s.notes(ev(in, 1, "xy"), ev(out, 2, "q"))
	s.step(toUser, 9, 0, true)
	for _, n := range tooFew {
		s.still("n is below 1", fromChild, n, 1)
	}
	s.notes(ev(in, 1, "xy"), ev(out, 2, "q"))
	s.step(fromChild, 1, 100, true)
	s.ends(true, ev(in, 1, "xy"), ev(out, 2, "q"))
	s.waits(0, 2)
	is(t, "hung up on the user's line", s.user.Room(1), 0)
	same(t, "the user hears", s.hear(out, 9), "q")
	is(t, "Over of the user", s.deaf(out), true)
	is(t, "Over of the child", s.deaf(in), false)
	is(t, "the child's Room from the relay", s.child.Room(0), 4)
	for _, n := range append(slices.Concat(tooFew, tooMany), 1) {
		s.still("seen", fromChild, n, 200)
		s.still("seen, and nothing waits", toUser, n, 200)
	}
	s.step(toChild, 1, 0, true) // what was read is still handed on
	s.step(toChild, 9, 0, true)
	same(t, "the child's line", s.hear(in, 9), "xy")
	for _, n := range append(slices.Concat(tooFew, tooMany), 1) {
		s.still("of the user nothing is read any more", fromUser, n, 200)
	}
	s.user.Read(1, 1)
	s.hang(in)
	s.still("nor is its end seen", fromUser, 9, 200)
	is(t, "the child's Room from the relay, at last", s.child.Room(0), 4)
	s.ends(true, ev(in, 1, "xy"), ev(out, 2, "q"))
}

func TestEndsOfLinesOnWhichNothingWasSaid(t *testing.T) {
	for _, w := range ways {
		s := opened(t, 2)
		s.hang(w.dir)
		s.still("the other way goes on", 1-w.read, 9, 0)
		s.step(w.read, 1, 5, true)
		is(t, "told", s.deaf(w.dir), true)
		is(t, "told the other way", s.deaf(1-w.dir), false)
		is(t, "End", s.r.Transcript().End, w.dir == out)
		is(t, "Done", s.r.Done(), w.dir == out)
		is(t, "events", len(s.r.Transcript().Events), 0)
		s.still("once", w.read, 1, 5)
	}
}

// Both ends, the user's first, since behind the child's it is not seen any more.
func TestBothEnds(t *testing.T) {
	s := opened(t, 2)
	s.hang(in)
	s.hang(out)
	s.step(fromUser, 1, 0, true)
	is(t, "Done behind the user's", s.r.Done(), false)
	s.step(fromChild, 1, 0, true)
	s.ends(true)
	is(t, "told both", s.deaf(in) && s.deaf(out), true)

	s = opened(t, 2)
	s.hang(in)
	s.hang(out)
	s.step(fromChild, 1, 0, true)
	s.still("the user's is not seen", fromUser, 1, 0)
	is(t, "the child is told nothing", s.deaf(in), false)
	is(t, "the user is told", s.deaf(out), true)
}

func TestTheChildsEndWhileBytesWaitForTheUser(t *testing.T) {
	s := opened(t, 2)
	s.say(out, "ab")
	s.step(fromChild, 9, 4, true)
	s.hang(out)
	s.still("two wait", fromChild, 9, 5)
	s.step(toUser, 1, 0, true)
	s.still("one waits", fromChild, 9, 6)
	s.notes(ev(out, 4, "ab"))
	is(t, "told ahead", s.user.Room(1) == 0 || s.deaf(out), false)
	s.step(toUser, 1, 0, true)
	s.notes(ev(out, 4, "ab"))
	s.step(fromChild, 9, 7, true)
	s.ends(true, ev(out, 4, "ab"))
	is(t, "heard to the end", string(s.hear(out, 9))+fmt.Sprint(s.deaf(out)), "abtrue")
}

// An end is not seen while bytes are on the line ahead of it.
func TestBytesAheadOfAnEnd(t *testing.T) {
	for _, w := range ways {
		s := opened(t, 5)
		s.say(w.dir, "abc")
		s.hang(w.dir)
		for i := range 3 {
			s.step(w.read, 1, int64(i), true)
			is(t, "told", s.deaf(w.dir), false)
			s.step(w.hand, 1, 0, true)
		}
		s.notes(ev(w.dir, 0, "a"), ev(w.dir, 1, "b"), ev(w.dir, 2, "c"))
		s.step(w.read, 1, 9, true)
		is(t, "heard to the end", string(s.hear(w.dir, 9))+fmt.Sprint(s.deaf(w.dir)), "abctrue")
	}
}

// When the user's end is seen, bytes from the child may wait, and are handed on; and the other way round.
func TestAnEndWhileBytesWaitTheOtherWay(t *testing.T) {
	for _, w := range ways {
		s := opened(t, 3)
		s.say(1-w.dir, "xyz")
		s.step(1-w.read, 9, 0, true)
		s.hang(w.dir)
		s.step(w.read, 1, 0, true)
		is(t, "Waits", s.r.Waits(1-w.dir), 3)
		is(t, "Done", s.r.Done(), w.dir == out)
		s.step(5-w.hand, 2, 0, true)
		same(t, "heard", s.hear(1-w.dir, 9), "xy")
		is(t, "Done", s.r.Done(), w.dir == out)
	}
}

// P7.1: no room to note.

// fill: so many events of a byte each are noted, of both directions in turn, and all is handed on and heard.
func (s *session) fill(events int) {
	s.t.Helper()
	for i := range events {
		w := ways[i%2]
		if s.say(w.dir, "e") != 1 || !s.r.Step(w.read, 1, int64(i)) || !s.r.Step(w.hand, 1, 0) || len(s.hear(w.dir, 9)) != 1 {
			s.t.Fatal("event", i)
		}
	}
}

func TestNoRoomForEvents(t *testing.T) {
	for _, w := range ways {
		s := opened(t, 4)
		s.fill(maxEvents - 1)
		is(t, "events", len(s.r.Transcript().Events), maxEvents-1)
		s.say(w.dir, "abc")
		s.say(1-w.dir, "xyz")
		s.step(w.read, 2, 9999, true) // the last one
		x := s.r.Transcript()
		is(t, "events", len(x.Events), maxEvents)
		if last := x.Events[maxEvents-1]; last.Dir != w.dir || last.Time != 9999 || string(last.Data) != "ab" {
			t.Error("the last event:", last)
		}
		for _, read := range []int{fromUser, fromChild} {
			s.still("no room to note", read, 1, 9999)
		}
		s.step(w.hand, 1, 0, true) // what was read is still handed on
		s.step(w.hand, 1, 0, true)
		same(t, "heard", s.hear(w.dir, 9), "ab")
		for _, n := range append(slices.Concat(tooFew, tooMany), 1) {
			s.still("no room to note, and nothing waits", fromUser, n, 0)
			s.still("no room to note, and nothing waits", fromChild, n, 0)
		}
		is(t, "left on the line", s.unread(w.dir), 1)
		is(t, "left on the other line", s.unread(1-w.dir), 3)
	}
}

// With MaxEvents events no end is seen, either; with one fewer it is, and takes no event's place.
func TestNoRoomForEventsAtAnEnd(t *testing.T) {
	for _, w := range ways {
		s := opened(t, 4)
		s.fill(maxEvents)
		s.hang(w.dir)
		s.still("no room to note", w.read, 1, 0)
		is(t, "told", s.deaf(w.dir), false)
		is(t, "End", s.r.Transcript().End, false)

		s = opened(t, 4)
		s.fill(maxEvents - 1)
		s.hang(w.dir)
		s.step(w.read, 1, 0, true)
		is(t, "told", s.deaf(w.dir), true)
		is(t, "events", len(s.r.Transcript().Events), maxEvents-1)
		if w.dir == in {
			s.say(out, "z")
			s.step(fromChild, 1, 0, true)
			is(t, "events", len(s.r.Transcript().Events), maxEvents)
		}
	}
}

// flood: so many bytes are noted, of one direction or of both in turn, and all is handed on and heard.
func (s *session) flood(size int, first, second way) {
	s.t.Helper()
	for size > 0 {
		n := min(size, maxData)
		if s.say(first.dir, upTo(n)) != n || !s.r.Step(first.read, math.MaxInt, 0) || !s.r.Step(first.hand, math.MaxInt, 0) || len(s.hear(first.dir, n)) != n {
			s.t.Fatal(size, "bytes are left to flood")
		}
		size -= n
		first, second = second, first
	}
}

// sizes: how many bytes each event has.
func (s *session) sizes() []int {
	var l []int
	for _, e := range s.r.Transcript().Events {
		l = append(l, len(e.Data))
	}
	return l
}

func TestMaxDataAtOnce(t *testing.T) {
	for _, w := range ways {
		for _, n := range []int{maxData - 1, maxData, maxData + 1, maxWhole, math.MaxInt} {
			s := opened(t, mostRoom)
			is(t, "said", s.say(w.dir, upTo(maxData+9)), maxData)
			s.step(w.read, n, 0, true)
			first := min(n, maxData)
			is(t, "Waits", s.r.Waits(w.dir), first)
			is(t, "said behind it", s.say(w.dir, upTo(50)), 50)
			s.still("they wait", w.read, n, 0)
			s.step(w.hand, math.MaxInt, 0, true)
			s.step(w.read, n, 0, true)
			is(t, "sizes", fmt.Sprint(s.sizes()), fmt.Sprint([]int{first, maxData - first + 50}))
			if got := s.hear(w.dir, maxData); string(got) != upTo(first) {
				t.Error("heard other bytes:", len(got))
			}
		}
	}
}

func TestNoRoomForBytes(t *testing.T) {
	for i, w := range ways {
		for _, other := range ways { // the noted bytes of all events are reckoned, whatever their direction
			for _, lack := range []int{0, 1, 2, 3, 4} {
				s := opened(t, mostRoom)
				s.flood(maxWhole-lack, ways[1-i], other)
				count := len(s.sizes())
				s.say(w.dir, "abc")
				want := min(3, lack)
				if lack == 0 {
					s.still("no byte more", w.read, 9, 0)
				} else {
					s.step(w.read, 9, 0, true)
					is(t, "events", len(s.sizes()), count+1)
					same(t, "the last event", s.r.Transcript().Events[count].Data, "abc"[:want])
				}
				is(t, "Waits", s.r.Waits(w.dir), want)
				is(t, "left on the line", s.unread(w.dir), 3-want)
				s.step(w.hand, 9, 0, lack > 0)
				same(t, "heard", s.hear(w.dir, 9), "abc"[:want])
				if want < 3 {
					s.still("no byte more", w.read, 9, 0)
					s.hang(w.dir)
					s.still("no byte more, and bytes ahead of the end", w.read, 9, 0)
					is(t, "told", s.deaf(w.dir), false)
				}
				if _, e := trans.Encode(s.r.Transcript()); e != api.OK {
					t.Error("Encode:", e)
				}
			}
		}
	}
}

// Where no byte more may be noted, an end that no bytes are ahead of is seen: it takes none.
func TestNoRoomForBytesAtAnEnd(t *testing.T) {
	for _, w := range ways {
		s := opened(t, mostRoom)
		s.flood(maxWhole, w, w)
		is(t, "sizes", fmt.Sprint(s.sizes()), fmt.Sprint([]int{maxData, maxData, maxData, maxData}))
		s.still("no byte more, and no end", w.read, 9, 0)
		s.hang(w.dir)
		s.step(w.read, 9, 0, true)
		is(t, "told", s.deaf(w.dir), true)
		is(t, "End", s.r.Transcript().End, w.dir == out)
		is(t, "Done", s.r.Done(), w.dir == out)
	}
}

// P7.1: the steps 2 and 3.

func TestHowManyAreHandedOn(t *testing.T) {
	for _, w := range ways {
		for _, n := range append(slices.Concat(tooFew, tooMany), 1, 2, 3, 4, 5, 6) {
			for taken := range 6 { // bytes that take up room on the line already
				s := between(t, line(t, 5), line(t, 5))
				s.say(w.dir, "abcd")
				s.say(1-w.dir, "xy")
				s.step(w.read, 9, 3, true)
				s.step(1-w.read, 1, 3, true)
				p, side := s.hearer(w.dir)
				ahead := "-----"[:taken]
				write(p, 1-side, ahead)
				want := max(0, min(n, 4, 5-taken))
				s.step(w.hand, n, 100, want > 0)
				is(t, "Waits", s.r.Waits(w.dir), 4-want)
				is(t, "Waits of the other way", s.r.Waits(1-w.dir), 1)
				is(t, "the line's Room", p.Room(1-side), 5-taken-want)
				s.notes(ev(w.dir, 3, "abcd"), ev(1-w.dir, 3, "x"))
				same(t, "heard", s.hear(w.dir, 9), ahead+"abcd"[:want])
				same(t, "heard the other way", s.hear(1-w.dir, 9), "")
				s.step(w.hand, 9, 100, want < 4)
				same(t, "the rest", s.hear(w.dir, 9), "abcd"[want:])
				s.still("none waits", w.hand, 9, 0)
			}
		}
	}
}

func TestNothingToHandOn(t *testing.T) {
	for _, w := range ways {
		s := opened(t, 3)
		s.say(w.dir, "ab") // on the line, and not read yet
		for _, n := range append(slices.Concat(tooFew, tooMany), 1) {
			s.still("none waits", w.hand, n, 0)
			s.still("none waits the other way", 5-w.hand, n, 0)
		}
	}
}

// The lines may be of other rooms than one another.
func TestAByteAtATimeToANarrowLine(t *testing.T) {
	s := between(t, line(t, 10), line(t, 1))
	s.say(in, "hello")
	s.step(fromUser, 9, 0, true)
	var got []byte
	for i := range 5 {
		s.step(toChild, 9, 0, true)
		s.still("the line is full", toChild, 9, 0)
		is(t, "Waits", s.r.Waits(in), 4-i)
		got = append(got, s.hear(in, 9)...)
	}
	same(t, "heard", got, "hello")
	s.notes(ev(in, 0, "hello"))
}

// Behind a hang up, whoever's it is, a line takes nothing any more: what waits, waits.
func TestHandingOnBehindAHangUp(t *testing.T) {
	for _, w := range ways {
		s := opened(t, 3)
		s.say(w.dir, "abc")
		s.step(w.read, 9, 0, true)
		s.step(w.hand, 1, 0, true)
		p, side := s.hearer(w.dir)
		p.Hang(1 - side)
		for _, n := range append(slices.Concat(tooFew, tooMany), 1) {
			s.still("hung", w.hand, n, 0)
		}
		is(t, "Waits", s.r.Waits(w.dir), 2)
		same(t, "heard", s.hear(w.dir, 9), "a")
		s.still("hung, and heard", w.hand, 9, 0)
		s.hang(w.dir)
		s.still("an end behind bytes that never go", w.read, 9, 0)
		s.notes(ev(w.dir, 0, "abc"))
	}
}

// The other side's hang up of the line that is written to plays no part.
func TestHandingOnToOneWhoHungUp(t *testing.T) {
	for _, w := range ways {
		s := opened(t, 3)
		s.say(w.dir, "abc")
		s.hang(1 - w.dir)
		s.step(w.read, 9, 0, true)
		s.step(w.hand, 9, 0, true)
		same(t, "heard", s.hear(w.dir, 9), "abc")
	}
}

// P7.1: times.

func TestTimesAreTheClocks(t *testing.T) {
	for _, row := range [][][2]int64{ // what the steps are told, and what is noted
		{{5, 5}, {3, 5}, {9, 9}, {8, 9}, {9, 9}, {10, 10}},
		{{least, least}, {least, least}, {-7, -7}, {-8, -7}, {-1, -1}, {0, 0}, {-1, 0}},
		{{0, 0}, {-1, 0}, {least, 0}, {1, 1}},
		{{greatest - 1, greatest - 1}, {least, greatest - 1}, {greatest, greatest}, {0, greatest}, {greatest, greatest}},
		{{-5, -5}, {least, -5}, {greatest, greatest}, {least, greatest}},
	} {
		for first := range 2 {
			s := opened(t, 3)
			var want []api.Event
			for i, x := range row {
				w := ways[(i/2+first)%2] // both directions have one clock
				s.say(w.dir, "e")
				s.step(w.read, 1, x[0], true)
				s.step(w.hand, 1, greatest, true) // tells the clock nothing
				s.still("nothing to read", w.read, 1, greatest)
				s.still("n is below 1", w.read, 0, greatest)
				s.hear(w.dir, 1)
				want = append(want, ev(w.dir, x[1], "e"))
				s.notes(want...)
			}
		}
	}
}

func TestAnEndTellsTheClockNothing(t *testing.T) {
	s := opened(t, 3)
	s.hang(in)
	s.step(fromUser, 1, greatest, true)
	s.say(out, "a")
	s.step(fromChild, 1, least, true)
	s.notes(ev(out, least, "a"))
}

// P7.1 and P7.2, against a relay that is written from the chapter's words alone.

type asAsked struct {
	user, child         *pty.Pty
	events              []api.Event
	bytes               int
	childEnd, userEnd   bool
	fromUser, fromChild []byte
	told                []int64
}

func (a *asAsked) noRoom() bool { return len(a.events) == maxEvents }

// most: of n bytes as many as one event, and all of them, may have yet.
func (a *asAsked) most(n int) int { return min(n, maxData, maxWhole-a.bytes) }

func (a *asAsked) note(dir int, t int64, b []byte) {
	a.told = append(a.told, t)
	a.events = append(a.events, api.Event{Dir: dir, Time: slices.Max(a.told), Data: b})
	a.bytes += len(b)
}

func (a *asAsked) step(kind, n int, t int64) bool {
	switch {
	case kind == 0 && (len(a.fromUser) > 0 || a.userEnd || a.childEnd || n < 1 || a.noRoom()):
		return false
	case kind == 1 && (len(a.fromChild) > 0 || a.childEnd || n < 1 || a.noRoom()):
		return false
	case kind == 0:
		if a.fromUser = a.user.Read(1, a.most(n)); len(a.fromUser) > 0 {
			a.note(in, t, bytes.Clone(a.fromUser))
			return true
		}
		if a.user.Over(1) {
			a.userEnd = true
			a.child.Hang(0)
		}
		return a.userEnd
	case kind == 1:
		if a.fromChild = a.child.Read(0, a.most(n)); len(a.fromChild) > 0 {
			a.note(out, t, bytes.Clone(a.fromChild))
			return true
		}
		if a.child.Over(0) {
			a.childEnd = true
			a.user.Hang(1)
		}
		return a.childEnd
	case kind == 2:
		took := a.child.Write(0, a.fromUser[:max(0, min(n, len(a.fromUser)))]...)
		a.fromUser = a.fromUser[took:]
		return took > 0
	case kind == 3:
		took := a.user.Write(1, a.fromChild[:max(0, min(n, len(a.fromChild)))]...)
		a.fromChild = a.fromChild[took:]
		return took > 0
	}
	return false
}

// act: what is done: a step of the relay, or of whom is at a line's far side: 4: the user writes, 5: reads, 6: hangs up; 7 to 9: the child.
type act struct {
	kind, n int
	t       int64
}

// twin: a session, another one that is as asked, and the bytes that went in and out of both.
type twin struct {
	*session
	a          *asAsked
	said, read map[int][]byte // by the direction
	next       byte
}

func twins(t *testing.T, room, other int) *twin {
	t.Helper()
	return &twin{
		session: between(t, line(t, room), line(t, other)),
		a:       &asAsked{user: line(t, room), child: line(t, other)},
		said:    map[int][]byte{}, read: map[int][]byte{},
	}
}

// far: what somebody at a far side does on both lines alike; whether both answer alike.
func (w *twin) far(p, q *pty.Pty, side, says, do, n int) bool {
	switch do {
	case 0:
		b := make([]byte, n)
		for i := range b {
			w.next++
			b[i] = w.next
		}
		took := p.Write(side, b...)
		w.said[says] = append(w.said[says], b[:took]...)
		return took == q.Write(side, b...)
	case 1:
		b := p.Read(side, n)
		w.read[1-says] = append(w.read[1-says], b...)
		return bytes.Equal(b, q.Read(side, n))
	case 2:
		p.Hang(side)
		q.Hang(side)
	}
	return true
}

// do: an act on both; whether they answer alike.
func (w *twin) do(x act) bool {
	switch {
	case x.kind >= 4 && x.kind <= 6:
		return w.far(w.user, w.a.user, 0, in, x.kind-4, x.n)
	case x.kind >= 7 && x.kind <= 9:
		return w.far(w.child, w.a.child, 1, out, x.kind-7, x.n)
	}
	return w.r.Step(x.kind, x.n, x.t) == w.a.step(x.kind, x.n, x.t)
}

// alike: whether both tell the same of all that is cheap to tell.
func (w *twin) alike() bool {
	for side := range 2 {
		if w.user.Waits(side) != w.a.user.Waits(side) || w.user.Room(side) != w.a.user.Room(side) || w.user.Over(side) != w.a.user.Over(side) {
			return false
		}
		if w.child.Waits(side) != w.a.child.Waits(side) || w.child.Room(side) != w.a.child.Room(side) || w.child.Over(side) != w.a.child.Over(side) {
			return false
		}
	}
	return w.r.Waits(out) == len(w.a.fromChild) && w.r.Waits(in) == len(w.a.fromUser) && w.r.Done() == (w.a.childEnd && len(w.a.fromChild) == 0)
}

// noted: whether both noted the same.
func (w *twin) noted() bool {
	x := w.r.Transcript()
	return event.Same(x.Events, w.a.events) && x.End == w.a.childEnd
}

// holds: P7.2, of what was said, read and noted so far.
func (w *twin) holds() bool {
	x := w.r.Transcript()
	for dir := range 2 {
		noted := event.Bytes(dir, x.Events...)
		if !bytes.HasPrefix(w.said[dir], noted) || !bytes.HasPrefix(noted, w.read[dir]) {
			return false // nothing is heard that isn't noted, nothing is noted that wasn't said
		}
		if len(noted) != len(w.said[dir])-w.unread(dir) {
			return false // just those that were read are noted
		}
		p, side := w.hearer(dir)
		if len(noted) != len(w.read[dir])+p.Waits(side)+w.r.Waits(dir) {
			return false // none is lost
		}
	}
	b, e := trans.Encode(x)
	back, _, f := trans.Decode(b)
	return event.Rises(x.Events...) && e == api.OK && f == api.OK && event.Same(back.Events, x.Events) && back.End == x.End
}

func TestAllShortRows(t *testing.T) {
	all := []act{
		{fromUser, 1, 3}, {fromUser, 9, 1}, {fromChild, 1, 2}, {fromChild, 9, 5},
		{toChild, 1, 0}, {toChild, 9, 0}, {toUser, 1, 0}, {toUser, 9, 0},
		{4, 2, 0}, {5, 1, 0}, {6, 0, 0}, {7, 2, 0}, {8, 1, 0}, {9, 0, 0},
	}
	const deep = 5
	for first := range len(all) {
		row := make([]int, deep)
		row[0] = first
		for {
			w := twins(t, 2, 1)
			for i, k := range row {
				if !w.do(all[k]) || !w.alike() {
					t.Fatalf("%v, the step %d of %v", all[k], i, row)
				}
			}
			if !w.noted() {
				t.Fatalf("behind %v: %v", row, w.r.Transcript())
			}
			i := deep - 1
			for i > 0 && row[i] == len(all)-1 {
				row[i] = 0
				i--
			}
			if i == 0 {
				break
			}
			row[i]++
		}
	}
}

// someTime: small ones, that go to and fro, and great ones.
func (c *chance) someTime() int64 {
	if c.below(9) == 0 {
		return []int64{least, least + 1, -1, 0, 1, greatest - 1, greatest}[c.below(7)]
	}
	return int64(c.below(400)) - 100
}

// someAct: hang ups are rare, else most rows would end early.
func (c *chance) someAct(most int) act {
	x := act{kind: c.below(11) - 1, n: c.below(most+3) - 1, t: c.someTime()}
	switch {
	case (x.kind == 6 || x.kind == 9) && c.below(15) > 0:
		x.kind -= 2
	case x.kind < 4 && c.below(6) == 0:
		x.n = []int{math.MinInt, 0, math.MaxInt}[c.below(3)]
	}
	if x.kind >= 4 {
		x.n = max(x.n, 0)
	}
	return x
}

func TestLongRows(t *testing.T) {
	for seed := range 400 {
		c := chance(seed)
		rooms := []int{1, 2, 3, 7, 64, 1000}
		w := twins(t, rooms[seed%6], rooms[seed/6%6])
		for i := range 300 {
			x := c.someAct(max(1, rooms[seed%6]))
			if !w.do(x) || !w.alike() {
				t.Fatalf("seed %d, step %d: %v", seed, i, x)
			}
			if i%10 == 0 && (!w.noted() || !w.holds()) {
				t.Fatalf("seed %d, step %d: %v", seed, i, w.r.Transcript())
			}
		}
		if !w.noted() || !w.holds() {
			t.Fatalf("seed %d: %v", seed, w.r.Transcript())
		}
	}
}

// Rows that are long enough to have no room to note any more: of events, by small bytes; of bytes, by great ones.
func TestRowsThatRunOutOfRoom(t *testing.T) {
	for seed, room := range []int{1, 3, 40, 5000, 60000, mostRoom} {
		c := chance(seed + 500)
		w := twins(t, room, room)
		full := false
		for i := 0; i < 400000 && !full; i++ {
			x := c.someAct(room)
			if x.kind == 6 || x.kind == 9 {
				x.kind -= 2 // no end ahead of the last event
			}
			if !w.do(x) || !w.alike() {
				t.Fatalf("room %d, step %d: %v", room, i, x)
			}
			full = w.a.noRoom() || w.a.bytes == maxWhole
		}
		if !full {
			t.Fatalf("room %d: %d events, %d bytes", room, len(w.a.events), w.a.bytes)
		}
		for i := range 500 {
			if x := c.someAct(room); !w.do(x) || !w.alike() {
				t.Fatalf("room %d, step %d when full: %v", room, i, x)
			}
		}
		if !w.noted() || !w.holds() {
			t.Fatalf("room %d: other events than asked", room)
		}
	}
}

// P7.2: if it goes on for long enough, all is heard, and both ends are told.
func TestAllIsHeardAtLast(t *testing.T) {
	for seed := range 100 {
		c := chance(seed + 9000)
		room := []int{1, 2, 5, 33}[seed%4]
		s := opened(t, room)
		said := [2]string{upTo(c.below(100)), upTo(150)[c.below(100):]}
		var heard [2][]byte
		left := said
		for i := 0; !s.r.Done() || !s.deaf(in) || !s.deaf(out); i++ {
			if i > 20000 {
				t.Fatalf("seed %d: it doesn't end", seed)
			}
			w := ways[c.below(2)]
			n := 1 + c.below(room+1)
			switch c.below(4) {
			case 0:
				left[w.dir] = left[w.dir][s.say(w.dir, left[w.dir][:min(n, len(left[w.dir]))]):]
				// The child is the last one to hang up, else what the user says would not be read.
				if len(left[w.dir]) == 0 && (w.dir == in || s.deaf(in)) {
					s.hang(w.dir)
				}
			case 1:
				s.r.Step(w.read, n, c.someTime())
			case 2:
				s.r.Step(w.hand, n, c.someTime())
			case 3:
				heard[w.dir] = append(heard[w.dir], s.hear(w.dir, n)...)
			}
		}
		x := s.r.Transcript()
		for dir := range 2 {
			same(t, "heard", heard[dir], said[dir])
			same(t, "noted", event.Bytes(dir, x.Events...), said[dir])
		}
		is(t, "End", x.End, true)
	}
}

// P2: relays that were made apart, and such that were made on the same line.

func TestRelaysAreApart(t *testing.T) {
	a, b := opened(t, 3), opened(t, 3)
	before := b.view()
	a.say(in, "ab")
	a.say(out, "c")
	a.step(fromUser, 1, 50, true)
	a.step(fromChild, 1, 60, true)
	a.hang(out)
	a.step(toUser, 1, 0, true)
	a.step(fromChild, 1, 0, true)
	is(t, "the other one", b.view(), before)
	b.say(in, "z")
	b.step(fromUser, 1, 2, true) // its clock is its own
	b.notes(ev(in, 2, "z"))
	a.ends(true, ev(in, 50, "a"), ev(out, 60, "c"))
}

// In a row, what one relay hands on the next one reads, and ends go through.
func TestTwoRelaysInARow(t *testing.T) {
	user, middle, child := line(t, 4), line(t, 4), line(t, 4)
	near, far := between(t, user, middle), between(t, middle, child)
	write(user, 0, "hi")
	write(child, 1, "yo")
	near.step(fromUser, 9, 7, true)
	far.step(fromUser, 9, 1, false)
	near.step(toChild, 9, 0, true)
	far.step(fromUser, 9, 1, true)
	far.step(toChild, 9, 0, true)
	same(t, "the child hears", child.Read(1, 9), "hi")
	far.step(fromChild, 9, 2, true)
	far.step(toUser, 9, 0, true)
	near.step(fromChild, 9, 1, true)
	near.step(toUser, 9, 0, true)
	same(t, "the user hears", user.Read(0, 9), "yo")
	near.notes(ev(in, 7, "hi"), ev(out, 7, "yo"))
	far.notes(ev(in, 1, "hi"), ev(out, 2, "yo"))
	child.Hang(1)
	far.step(fromChild, 9, 0, true)
	near.step(fromChild, 9, 0, true)
	is(t, "the user is told", user.Over(0), true)
	is(t, "Done", near.r.Done() && far.r.Done(), true)
}

// Two relays of one user: each byte is read once, by who comes first.
func TestTwoRelaysOnOneLine(t *testing.T) {
	user, one, other := line(t, 4), line(t, 4), line(t, 4)
	a, b := between(t, user, one), between(t, user, other)
	write(user, 0, "abc")
	a.step(fromUser, 2, 5, true)
	b.step(fromUser, 9, 1, true)
	a.notes(ev(in, 5, "ab"))
	b.notes(ev(in, 1, "c"))
	a.waits(0, 2)
	b.waits(0, 1)
	one.Hang(1)
	a.step(fromChild, 1, 0, true)
	is(t, "Done of the other one", b.r.Done(), false)
	other.Write(1, 'x')
	b.step(fromChild, 1, 0, true)
	b.still("the line was hung by another relay", toUser, 1, 0)
}

// Rule 4: what Transcript answers is new memory.

// spoil: whoever has a transcript may do anything to its memory, also to what lies behind its lengths.
func spoil(x api.Transcript) {
	l := x.Events[:cap(x.Events)]
	for i := range l {
		b := l[i].Data[:cap(l[i].Data)]
		for k := range b {
			b[k] = ^b[k]
		}
		l[i] = ev(7, 7, "spoilt")
	}
}

func TestTranscriptIsNewMemory(t *testing.T) {
	s := opened(t, 9)
	s.say(out, "abcdef")
	s.say(in, "uvwxyz")
	s.step(fromChild, 4, 1, true)
	s.step(fromUser, 4, 2, true)
	first, second := s.r.Transcript(), s.r.Transcript()
	spoil(first)
	want := []api.Event{ev(out, 1, "abcd"), ev(in, 2, "uvwx")}
	if !event.Same(second.Events, want) {
		t.Error("another answer:", second)
	}
	s.notes(want...)
	spoil(second)
	s.notes(want...)
	s.step(toUser, 2, 0, true) // nor does what waits share memory with it
	spoil(s.r.Transcript())
	s.step(toUser, 9, 0, true)
	s.step(toChild, 9, 0, true)
	same(t, "the user hears", s.hear(out, 9), "abcd")
	same(t, "the child hears", s.hear(in, 9), "uvwx")
	s.step(fromChild, 9, 3, true) // nor what is on the lines
	spoil(s.r.Transcript())
	s.step(toUser, 9, 0, true)
	same(t, "the user hears", s.hear(out, 9), "ef")
	s.notes(append(want, ev(out, 3, "ef"))...)
}

// Whoever spoils what was heard, or said, spoils nothing that was noted or waits.
func TestWhatIsNotedIsItsOwn(t *testing.T) {
	s := opened(t, 9)
	l := []byte("abcdef")
	s.user.Write(0, l...)
	copy(l, "------")
	s.step(fromUser, 4, 1, true)
	s.step(toChild, 2, 0, true)
	heard := s.hear(in, 9)
	for i := range heard[:cap(heard)] {
		heard[:cap(heard)][i] = '-'
	}
	s.notes(ev(in, 1, "abcd"))
	s.step(toChild, 9, 0, true)
	same(t, "heard", s.hear(in, 9), "cd")
	s.notes(ev(in, 1, "abcd"))
	same(t, "left on the line", s.user.Read(1, 9), "ef")
}

func TestAnswersStayAsTheyAre(t *testing.T) {
	s := opened(t, 9)
	var kept, copies []api.Transcript
	for i := range 50 {
		w := ways[i/3%2]
		s.say(w.dir, fmt.Sprint(10+i))
		s.step(w.read, 2, int64(i), true)
		x := s.r.Transcript()
		kept = append(kept, x)
		copied := api.Transcript{Events: slices.Clone(x.Events), End: x.End}
		for k := range copied.Events {
			copied.Events[k].Data = bytes.Clone(copied.Events[k].Data)
		}
		copies = append(copies, copied)
		spoil(s.r.Transcript())
		s.step(w.hand, 2, 0, true)
		s.hear(w.dir, 2)
	}
	if !reflect.DeepEqual(kept, copies) {
		t.Error("kept answers have changed")
	}
}

// Asking changes nothing, and the same is told again.
func TestAskingChangesNothing(t *testing.T) {
	s := opened(t, 3)
	s.say(out, "ab")
	s.step(fromChild, 1, 4, true)
	before := s.view()
	for range 3 {
		is(t, "told again", s.view(), before)
	}
	s.step(toUser, 1, 0, true)
	s.step(fromChild, 1, 2, true)
	s.notes(ev(out, 4, "a"), ev(out, 4, "b"))
}
