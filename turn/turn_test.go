package turn_test

import (
	"bytes"
	"fmt"
	"iter"
	"math"
	"slices"
	"strings"
	"testing"
	"time"

	"cuecard/api"
	"cuecard/event"
	"cuecard/turn"
)

// The signatures are part of what is asked: a change of one must not build.
var (
	_ func(...api.Event) []api.Turn               = turn.Of
	_ func(...api.Event) iter.Seq2[int, api.Turn] = turn.All
	_ func(...api.Turn) []api.Event               = turn.Events
	_ func(int, ...api.Turn) int                  = turn.Told
	_ func(int, ...api.Turn) int                  = turn.Seen
)

// The directions, by their numbers.
const (
	out = 0
	in  = 1
)

// neither: numbers that are no direction.
var neither = []int{math.MinInt, math.MinInt32, -256, -2, -1, 2, 3, 7, 255, 256, 257, 1 << 32, 1<<32 + 1, math.MaxInt}

func is[T comparable](t *testing.T, what string, got, want T) {
	t.Helper()
	if got != want {
		t.Errorf("%s: %v, wanted %v", what, got, want)
	}
}

func ev(dir int, s string) api.Event { return api.Event{Dir: dir, Data: []byte(s)} }

// row: events written short, a letter for the way and the bytes behind it; another way has a question mark.
func row(l ...string) []api.Event {
	var all []api.Event
	for i, s := range l {
		dir := map[byte]int{'<': out, '>': in, '?': 7}[s[0]]
		all = append(all, api.Event{Dir: dir, Time: int64(i*5 - 3), Data: []byte(s[1:])})
	}
	return all
}

// pairs: turns written short, an Out and an In by turns.
func pairs(l ...string) []api.Turn {
	var all []api.Turn
	for i := 0; i < len(l); i += 2 {
		all = append(all, api.Turn{Out: []byte(l[i]), In: []byte(l[i+1])})
	}
	return all
}

// told: turns as one text; it tells turns apart that are cut in other places.
func told(l []api.Turn) string {
	var b strings.Builder
	for _, t := range l {
		fmt.Fprintf(&b, "%d:%s/%d:%s,", len(t.Out), t.Out, len(t.In), t.In)
	}
	return b.String()
}

// written: events as one text, with all that they have.
func written(l []api.Event) string {
	var b strings.Builder
	for _, e := range l {
		fmt.Fprintf(&b, "%d@%d:%d:%s,", e.Dir, e.Time, len(e.Data), e.Data)
	}
	return b.String()
}

// gone: the turns that are told one by one, whose numbers must be from 0 on.
func gone(t *testing.T, s iter.Seq2[int, api.Turn]) []api.Turn {
	t.Helper()
	if s == nil {
		t.Fatal("All: nil")
	}
	var l []api.Turn
	for i, x := range s {
		is(t, "the number", i, len(l))
		l = append(l, x)
	}
	return l
}

// What the document's words ask, worked out byte by byte.

// wantTurns: a byte of the child's begins a turn, unless the byte ahead is the child's, too.
func wantTurns(l []api.Event) []api.Turn {
	var all []api.Turn
	ahead := -1
	for _, e := range l {
		if e.Dir != out && e.Dir != in {
			continue
		}
		for _, c := range e.Data {
			if len(all) == 0 || e.Dir == out && ahead == in {
				all = append(all, api.Turn{})
			}
			last := &all[len(all)-1]
			if e.Dir == out {
				last.Out = append(last.Out, c)
			} else {
				last.In = append(last.In, c)
			}
			ahead = e.Dir
		}
	}
	return all
}

func wantEvents(l []api.Turn) []api.Event {
	var all []api.Event
	for _, t := range l {
		for dir, data := range [2][]byte{t.Out, t.In} {
			if len(data) > 0 {
				all = append(all, api.Event{Dir: dir, Data: data})
			}
		}
	}
	return all
}

// wantTold, wantSeen: by the numbers of the turns, held against i one by one.
func wantTold(i int, l []api.Turn) int {
	n := 0
	for k := 0; k < len(l) && k < i; k++ {
		n += len(l[k].In)
	}
	return n
}

func wantSeen(i int, l []api.Turn) int {
	n := 0
	for k := 0; k < len(l) && k <= i; k++ {
		n += len(l[k].Out)
	}
	return n
}

// said: the bytes of a direction, one behind the other.
func said(dir int, l []api.Event) string {
	var b []byte
	for _, e := range l {
		if e.Dir == dir {
			b = append(b, e.Data...)
		}
	}
	return string(b)
}

func outs(l []api.Turn) string {
	var b []byte
	for _, t := range l {
		b = append(b, t.Out...)
	}
	return string(b)
}

func ins(l []api.Turn) string {
	var b []byte
	for _, t := range l {
		b = append(b, t.In...)
	}
	return string(b)
}

// rows goes through all lists of up to so many events, of both directions and of one that is none, without bytes, with one, and with two.
func rows(most int, look func(l []api.Event)) {
	var grow func(l []api.Event)
	grow = func(l []api.Event) {
		look(l)
		if len(l) == most {
			return
		}
		for _, dir := range []int{out, in, 7} {
			for n := range 3 {
				c := 'a' + byte(2*len(l))
				e := api.Event{Dir: dir, Time: int64(len(l)*37%5) - 2, Data: []byte{c, c + 1}[:n:n]}
				grow(append(slices.Clip(l), e))
			}
		}
	}
	grow(nil)
}

// turnRows goes through all lists of up to so many turns, with or without an Out and an In, also such as no events have.
func turnRows(most int, look func(l []api.Turn)) {
	var grow func(l []api.Turn)
	grow = func(l []api.Turn) {
		look(l)
		if len(l) == most {
			return
		}
		for k := range 9 {
			c := byte('a' + 4*len(l))
			x := api.Turn{Out: []byte{c, c + 1}[:k%3], In: []byte{c + 2, c + 3}[:k/3]}
			grow(append(slices.Clip(l), x))
		}
	}
	grow(nil)
}

// chance: numbers that are the same in every run.
type chance uint32

func (c *chance) below(n int) int {
	*c = *c*1664525 + 1013904223
	return int(*c>>8) % n
}

// events: of any ways and Times, with few bytes each.
func (c *chance) events(n int) []api.Event {
	l := make([]api.Event, n)
	for i := range l {
		dir := c.below(2)
		if c.below(8) == 0 {
			dir = neither[c.below(len(neither))]
		}
		data := make([]byte, c.below(4))
		for k := range data {
			data[k] = byte(c.below(256))
		}
		l[i] = api.Event{Dir: dir, Time: int64(c.below(100) - 50), Data: data}
	}
	return l
}

// inTime: it ends, and in less time than it would take to go through all for each.
func inTime(t *testing.T, what string, do func()) {
	t.Helper()
	done := make(chan bool)
	go func() {
		defer close(done)
		do()
	}()
	select {
	case <-done:
	case <-time.After(time.Minute):
		t.Fatal(what, "takes too long")
	}
}

// P10.1: Of, All.

// holds: the turns of events, at once and one by one.
func holds(t *testing.T, what string, l []api.Event, want ...string) {
	t.Helper()
	is(t, what+": Of", told(turn.Of(l...)), told(pairs(want...)))
	is(t, what+": All", told(gone(t, turn.All(l...))), told(pairs(want...)))
	is(t, what+": what the words ask", told(wantTurns(l)), told(pairs(want...)))
}

func TestTurns(t *testing.T) {
	holds(t, "the example", row("<a", "<b", ">x", "<c"), "ab", "x", "c", "")
	holds(t, "the login", row("<log", "<in:", ">me\n"), "login:", "me\n")
	holds(t, "nothing", nil)
	holds(t, "an empty list", []api.Event{})
	holds(t, "Out alone", row("<a"), "a", "")
	holds(t, "In alone", row(">x"), "", "x")
	holds(t, "Out, In", row("<a", ">x"), "a", "x")
	holds(t, "In, Out", row(">x", "<a"), "", "x", "a", "")
	holds(t, "In, Out, In", row(">x", "<a", ">y"), "", "x", "a", "y")
	holds(t, "many Outs", row("<a", "<bc", "<d"), "abcd", "")
	holds(t, "many Ins", row(">x", ">yz", ">w"), "", "xyzw")
	holds(t, "each by turns", row("<a", ">x", "<b", ">y", "<c", ">z"), "a", "x", "b", "y", "c", "z")
	holds(t, "rows of each", row(">u", ">v", "<a", "<b", ">x", ">y", "<c", "<d"), "", "uv", "ab", "xy", "cd", "")
	holds(t, "the same bytes each way", row("<a", ">a", "<a", ">a"), "a", "a", "a", "a")
	holds(t, "any bytes", row("<\x00\xff", ">\n\x00", "<\xc3", "<\xa4"), "\x00\xff", "\n\x00", "\xc3\xa4", "")
}

// What has no bytes begins no turn, and parts none.
func TestTurnsOfEventsWithoutBytes(t *testing.T) {
	holds(t, "an Out without bytes", row("<"))
	holds(t, "an In without bytes", row(">"))
	holds(t, "all without bytes", row("<", ">", "<", "<", ">", ">"))
	holds(t, "nil bytes", []api.Event{{}, {Dir: in}, {Dir: 7}})
	holds(t, "an In without bytes between", row("<a", ">", "<b", ">x"), "ab", "x")
	holds(t, "an Out without bytes between", row("<a", ">x", "<", ">y"), "a", "xy")
	holds(t, "an Out without bytes first", row("<", ">x", "<a"), "", "x", "a", "")
	holds(t, "an In without bytes first", row(">", "<a", ">x"), "a", "x")
	holds(t, "an In without bytes last", row("<a", ">"), "a", "")
	holds(t, "an Out without bytes last", row("<a", ">x", "<"), "a", "x")
}

// An event whose Dir is neither is as if it weren't there: nothing of it is taken, and it parts no neighbours.
func TestTurnsOfOtherWays(t *testing.T) {
	holds(t, "another way alone", row("?q"))
	holds(t, "between Outs", row("<a", "?q", "<b", ">x"), "ab", "x")
	holds(t, "between Ins", row("<a", ">x", "?q", "?r", ">y", "<b"), "a", "xy", "b", "")
	holds(t, "between the two", row("?p", "<a", "?q", ">x", "?r", "<b", "?s"), "a", "x", "b", "")
	holds(t, "with others that have no bytes", row("<a", "?", ">", "?q", "<", "<b"), "ab", "")
	holds(t, "first, ahead of an In", row("?q", ">x"), "", "x")
	for _, dir := range neither {
		holds(t, fmt.Sprint("the way ", dir), []api.Event{ev(dir, "p"), ev(out, "a"), ev(dir, "q"), ev(out, "b"), ev(dir, "r"), ev(in, "x"), ev(dir, "s"), ev(in, "y"), ev(dir, "t")}, "ab", "xy")
		holds(t, fmt.Sprint("the way alone ", dir), []api.Event{ev(dir, "p"), ev(dir, "q")})
	}
}

// Times are not looked at, whatever they are.
func TestTurnsOfAnyTimes(t *testing.T) {
	for _, times := range [][4]int64{{}, {math.MaxInt64, 0, math.MinInt64, -1}, {4, 3, 2, 1}, {math.MinInt64, math.MinInt64, math.MaxInt64, math.MaxInt64}} {
		l := row("<a", "<b", ">x", "<c")
		for i := range l {
			l[i].Time = times[i]
		}
		holds(t, "any Times", l, "ab", "x", "c", "")
	}
}

func TestTurnsOfAllShortLists(t *testing.T) {
	rows(5, func(l []api.Event) {
		want := told(wantTurns(l))
		if told(turn.Of(l...)) != want || told(gone(t, turn.All(l...))) != want {
			t.Fatalf("of %s: %s and %s, wanted %s", written(l), told(turn.Of(l...)), told(gone(t, turn.All(l...))), want)
		}
	})
}

func TestTurnsOfLongerLists(t *testing.T) {
	for seed := range 500 {
		c := chance(seed)
		l := c.events(c.below(60))
		want := told(wantTurns(l))
		is(t, "Of", told(turn.Of(l...)), want)
		is(t, "All", told(gone(t, turn.All(l...))), want)
	}
}

// Each turn but the first one has an Out, each but the last one an In; none has neither.
func TestTurnsHaveBoth(t *testing.T) {
	rows(5, func(l []api.Event) {
		turns := turn.Of(l...)
		for i, x := range turns {
			if i > 0 && len(x.Out) == 0 || i < len(turns)-1 && len(x.In) == 0 || len(x.Out)+len(x.In) == 0 {
				t.Fatalf("of %s: %s", written(l), told(turns))
			}
		}
	})
}

// Who goes through turns may leave off at any, and go through them again, also within.
func TestAllIsLeftAndGoneThroughAgain(t *testing.T) {
	s := turn.All(row(">w", "<a", ">x", "<b", ">y", "<c")...)
	whole := told(pairs("", "w", "a", "x", "b", "y", "c", ""))
	for most := range 6 {
		n := 0
		for i := range s {
			is(t, "the number", i, n)
			if n == most {
				break
			}
			n++
		}
		is(t, "how many, till it was left", n, min(most, 4))
		is(t, "again", told(gone(t, s)), whole)
	}
	for i, x := range s {
		is(t, "within", told(gone(t, s)), whole)
		is(t, "the one outside", told([]api.Turn{x}), told(gone(t, s)[i:i+1]))
	}
	n := 0
	turn.All(row("<a", ">x", "<b")...)(func(i int, x api.Turn) bool {
		n++
		return false
	})
	is(t, "after a false", n, 1)
}

func TestAllOfNothing(t *testing.T) {
	for _, l := range [][]api.Event{nil, {}, row("<", ">", "?q")} {
		for i, x := range turn.All(l...) {
			t.Error("a turn of nothing:", i, x)
		}
	}
}

// P10.2: Events, Told, Seen.

func TestEvents(t *testing.T) {
	for _, c := range []struct {
		turns []api.Turn
		want  []api.Event
	}{
		{nil, nil},
		{[]api.Turn{}, nil},
		{[]api.Turn{{}}, nil},
		{pairs("", "", "", ""), nil},
		{pairs("ab", "x", "c", ""), []api.Event{ev(out, "ab"), ev(in, "x"), ev(out, "c")}},
		{pairs("", "x", "a", ""), []api.Event{ev(in, "x"), ev(out, "a")}},
		{pairs("a", "x"), []api.Event{ev(out, "a"), ev(in, "x")}},
		{pairs("a", "", "b", ""), []api.Event{ev(out, "a"), ev(out, "b")}}, // such as no events have: they are not merged
		{pairs("", "x", "", "y"), []api.Event{ev(in, "x"), ev(in, "y")}},
		{pairs("a", "x", "", "", "b", "y"), []api.Event{ev(out, "a"), ev(in, "x"), ev(out, "b"), ev(in, "y")}},
		{pairs("\x00\xff", "\n"), []api.Event{ev(out, "\x00\xff"), ev(in, "\n")}},
	} {
		is(t, "Events of "+told(c.turns), written(turn.Events(c.turns...)), written(c.want))
	}
}

func TestEventsOfAllShortLists(t *testing.T) {
	turnRows(4, func(l []api.Turn) {
		if got, want := written(turn.Events(l...)), written(wantEvents(l)); got != want {
			t.Fatalf("Events of %s: %s, wanted %s", told(l), got, want)
		}
	})
}

// Of events of any Time there are turns, and of these events of the Time 0.
func TestEventsHaveNoTimes(t *testing.T) {
	l := row("<a", ">x", "<b", ">y")
	for i := range l {
		l[i].Time = math.MaxInt64 - int64(i)
	}
	for _, e := range turn.Events(turn.Of(l...)...) {
		is(t, "the Time", e.Time, 0)
	}
}

func TestToldAndSeen(t *testing.T) {
	l := pairs("", "uv", "ab", "xyz", "c", "", "defg", "w")
	for i, c := range [][2]int{{0, 0}, {2, 2}, {5, 3}, {5, 7}, {6, 7}, {6, 7}} {
		is(t, fmt.Sprint("Told ", i), turn.Told(i, l...), c[0])
		is(t, fmt.Sprint("Seen ", i), turn.Seen(i, l...), c[1])
	}
	one := pairs("ab", "x")
	is(t, "Told at the only one", turn.Told(0, one...), 0)
	is(t, "Seen at the only one", turn.Seen(0, one...), 2)
	is(t, "Told behind the only one", turn.Told(1, one...), 1)
	is(t, "Seen behind the only one", turn.Seen(1, one...), 2)
}

// Numbers below 0, and beyond the last one, are numbers, too.
func TestToldAndSeenOfAnyNumber(t *testing.T) {
	l := pairs("ab", "xyz", "c", "w")
	for _, i := range []int{math.MinInt, math.MinInt + 1, math.MinInt32, -3, -2, -1} {
		is(t, fmt.Sprint("Told ", i), turn.Told(i, l...), 0)
		is(t, fmt.Sprint("Seen ", i), turn.Seen(i, l...), 0)
	}
	for _, i := range []int{2, 3, 1000, math.MaxInt32, 1 << 32, 1<<32 + 1, math.MaxInt - 1, math.MaxInt} {
		is(t, fmt.Sprint("Told ", i), turn.Told(i, l...), 4)
		is(t, fmt.Sprint("Seen ", i), turn.Seen(i, l...), 3)
	}
	for _, i := range []int{math.MinInt, -1, 0, 1, math.MaxInt} {
		is(t, "Told of none", turn.Told(i), 0)
		is(t, "Seen of none", turn.Seen(i), 0)
		is(t, "Told of an empty list", turn.Told(i, []api.Turn{}...), 0)
		is(t, "Seen of an empty list", turn.Seen(i, []api.Turn{}...), 0)
		is(t, "Told of an empty turn", turn.Told(i, api.Turn{}), 0)
		is(t, "Seen of an empty turn", turn.Seen(i, api.Turn{}), 0)
	}
}

func TestToldAndSeenOfAllShortLists(t *testing.T) {
	turnRows(4, func(l []api.Turn) {
		for i := -2; i < len(l)+3; i++ {
			if turn.Told(i, l...) != wantTold(i, l) || turn.Seen(i, l...) != wantSeen(i, l) {
				t.Fatalf("at %d of %s: %d, %d", i, told(l), turn.Told(i, l...), turn.Seen(i, l...))
			}
		}
	})
}

// Whoever was told what Told says has seen what Seen says, and no more: so says layer 4's Due, too.
func TestSeenIsDue(t *testing.T) {
	rows(4, func(l []api.Event) {
		turns := turn.Of(l...)
		for i := range turns {
			if got, want := turn.Seen(i, turns...), event.Due(turn.Told(i, turns...), l...); got != want {
				t.Fatalf("Seen(%d) of %s: %d, and %d are due", i, written(l), got, want)
			}
		}
	})
}

// P10.3: what was said stays, and turns of turns' events are the same turns.

// holdsLaws: P10.3 of some events.
func holdsLaws(t *testing.T, l []api.Event) {
	t.Helper()
	turns := turn.Of(l...)
	if outs(turns) != said(out, l) || ins(turns) != said(in, l) {
		t.Fatalf("of %s: %s", written(l), told(turns))
	}
	is(t, "what the child said", outs(turns), string(event.Bytes(out, l...)))
	is(t, "what the user said", ins(turns), string(event.Bytes(in, l...)))
	again := turn.Of(turn.Events(turns...)...)
	if told(again) != told(turns) {
		t.Fatalf("of %s: %s, and again %s", written(l), told(turns), told(again))
	}
	is(t, "all that the user said", turn.Told(len(turns), turns...), len(said(in, l)))
	is(t, "all that the child said", turn.Seen(len(turns), turns...), len(said(out, l)))
}

func TestTurnsKeepWhatWasSaid(t *testing.T) {
	rows(5, func(l []api.Event) { holdsLaws(t, l) })
	for seed := range 500 {
		c := chance(seed)
		holdsLaws(t, c.events(c.below(60)))
	}
}

// The events of turns of events are what Merge tells of these, but for the Times.
func TestEventsOfTurnsAreMerged(t *testing.T) {
	for seed := range 300 {
		c := chance(seed)
		both := slices.DeleteFunc(c.events(c.below(60)), func(e api.Event) bool { return e.Dir != out && e.Dir != in })
		merged := event.Merge(both...)
		for i := range merged {
			merged[i].Time = 0
		}
		is(t, "the events", written(turn.Events(turn.Of(both...)...)), written(merged))
	}
}

// Rule 4: what is answered is new memory; what is handed in is neither changed nor kept.

// spoil: writes over all of a list's memory, also what lies behind its length.
func spoil(l []byte) {
	l = l[:cap(l)]
	for i := range l {
		l[i] = '#'
	}
}

func spoilEvents(l []api.Event) {
	for i := range l {
		spoil(l[i].Data)
		l[i] = api.Event{Dir: 9, Time: 9}
	}
}

func spoilTurns(l []api.Turn) {
	l = l[:cap(l)]
	for i := range l {
		spoil(l[i].Out)
		spoil(l[i].In)
		l[i] = api.Turn{}
	}
}

func TestTurnsAreNewMemory(t *testing.T) {
	many := [][]string{{"<a"}, {">x"}, {"<a", "<b", ">x", ">y", "<c"}, {">x", "<", "<a", "?q", ">y"}, {"<a", ">x", "<b", ">y"}}
	for _, c := range many {
		l := row(c...)
		ahead, want := written(l), told(turn.Of(l...))
		s := turn.All(l...)
		other := turn.Of(l...)
		spoilTurns(turn.Of(l...))
		for _, x := range s {
			spoil(x.Out)
			spoil(x.In)
		}
		is(t, "the events", written(l), ahead)
		is(t, "another answer", told(other), want)
		is(t, "one by one, again", told(gone(t, s)), want)
		kept := gone(t, s)
		spoilEvents(l)
		is(t, "Of, behind a change of the events", told(other), want)
		is(t, "All, behind a change of the events", told(gone(t, s)), want)
		spoilTurns(gone(t, s))
		is(t, "what was told one by one", told(kept), want)
	}
}

// Whoever spoils one list of an answer spoils no other one.
func TestTurnsShareNothing(t *testing.T) {
	l := row("<ab", ">xy", "<cd", ">zw")
	for i := range 4 {
		turns, one := turn.Of(l...), gone(t, turn.All(l...))
		for _, answer := range [][]api.Turn{turns, one} {
			all := [][]byte{answer[0].Out, answer[0].In, answer[1].Out, answer[1].In}
			spoil(all[i])
			for k, b := range all {
				if k != i {
					is(t, "another list", string(b), []string{"ab", "xy", "cd", "zw"}[k])
				}
			}
		}
	}
}

func TestEventsAreNewMemory(t *testing.T) {
	turns := pairs("ab", "x", "", "yz", "c", "", "", "", "d", "w")
	ahead, want := told(turns), written(wantEvents(pairs("ab", "x", "", "yz", "c", "", "", "", "d", "w")))
	other := turn.Events(turns...)
	for i := range other {
		l := turn.Events(turns...)
		spoil(l[i].Data)
		l[i] = other[i]
		is(t, "the other events", written(l), want)
	}
	spoilEvents(turn.Events(turns...))
	is(t, "the turns", told(turns), ahead)
	is(t, "another answer", written(other), want)
	spoilTurns(turns)
	is(t, "behind a change of the turns", written(other), want)
}

// Nothing that lies around lists in their memory is read, written or handed out.
func TestOnlyTheListsAreLookedAt(t *testing.T) {
	whole := []byte("pqabcdefrs")
	events := []api.Event{{Dir: out, Data: whole[2:4]}, {Dir: in, Data: whole[4:6]}, {Dir: in, Data: whole[6:8]}, {Dir: out, Data: whole}}
	l := events[:3]
	turns := turn.Of(l...)
	is(t, "Of", told(turns), told(pairs("ab", "cdef")))
	is(t, "All", told(gone(t, turn.All(l...))), told(turns))
	for _, x := range append(turns, gone(t, turn.All(l...))...) {
		for _, b := range slices.Concat(x.Out[len(x.Out):cap(x.Out)], x.In[len(x.In):cap(x.In)]) {
			is(t, "what lies behind", b, 0)
		}
	}
	given := []api.Turn{{Out: whole[2:4], In: whole[4:6]}, {Out: whole[6:8]}, {Out: whole, In: whole}}
	of := turn.Events(given[:2]...)
	is(t, "Events", written(of), written([]api.Event{ev(out, "ab"), ev(in, "cd"), ev(out, "ef")}))
	for _, e := range of {
		for _, b := range e.Data[len(e.Data):cap(e.Data)] {
			is(t, "what lies behind", b, 0)
		}
	}
	is(t, "Told", turn.Told(3, given[:2]...), 2)
	is(t, "Seen", turn.Seen(3, given[:2]...), 4)
	is(t, "what was handed in, and lies around it", string(whole), "pqabcdefrs")
	is(t, "the event behind", written(events[3:]), written([]api.Event{{Dir: out, Data: []byte("pqabcdefrs")}}))
	is(t, "the turn behind", told(given[2:]), told(pairs("pqabcdefrs", "pqabcdefrs")))
}

// P1: every call ends, also of lists far longer than a transcript's.
func TestLongLists(t *testing.T) {
	const n = 1 << 18
	alike, byTurns := make([]api.Event, n), make([]api.Event, n)
	for i := range n {
		alike[i] = api.Event{Data: []byte{byte(i), byte(i >> 8)}}
		byTurns[i] = api.Event{Dir: i % 2, Data: []byte{byte(i)}}
	}
	inTime(t, "rows of one way", func() {
		turns := turn.Of(alike...)
		is(t, "how many turns", len(turns), 1)
		is(t, "how many bytes", len(turns[0].Out), 2*n)
		is(t, "whether they are the same", bytes.Equal(turns[0].Out, event.Bytes(out, alike...)), true)
	})
	inTime(t, "each by turns", func() {
		turns := turn.Of(byTurns...)
		is(t, "how many turns", len(turns), n/2)
		is(t, "how many events", len(turn.Events(turns...)), n)
		is(t, "Told", turn.Told(n/4, turns...), n/4)
		is(t, "Seen", turn.Seen(n/4, turns...), n/4+1)
		last := 0
		for i := range turn.All(byTurns...) {
			last = i
		}
		is(t, "the last number", last, n/2-1)
	})
}

// FuzzTurns: any bytes as events, each by its way, how many bytes it has, and these.
func FuzzTurns(f *testing.F) {
	f.Add([]byte{0, 2, 'a', 'b', 1, 1, 'x', 0, 1, 'c'})
	f.Add([]byte{1, 1, 'x', 2, 1, 'q', 1, 0, 0, 0, 1, 1, 'y'})
	f.Fuzz(func(t *testing.T, b []byte) {
		var l []api.Event
		for len(b) > 1 {
			n := min(int(b[1]%8), len(b)-2)
			l = append(l, api.Event{Dir: int(b[0]%5) - 1, Time: int64(b[1]), Data: b[2 : 2+n]})
			b = b[2+n:]
		}
		want := wantTurns(l)
		is(t, "Of", told(turn.Of(l...)), told(want))
		is(t, "All", told(gone(t, turn.All(l...))), told(want))
		is(t, "Events", written(turn.Events(want...)), written(wantEvents(want)))
		for i := -1; i <= len(want)+1; i++ {
			is(t, "Told", turn.Told(i, want...), wantTold(i, want))
			is(t, "Seen", turn.Seen(i, want...), wantSeen(i, want))
		}
		holdsLaws(t, l)
	})
}
