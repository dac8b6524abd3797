package event_test

import (
	"bytes"
	"iter"
	"math"
	"reflect"
	"slices"
	"testing"

	"cuecard/api"
	"cuecard/event"
)

// The signatures are part of what is asked: a change of one must not build.
var (
	_ func(...api.Event) api.Errno                = event.Check
	_ func(int, ...api.Event) iter.Seq[api.Event] = event.Of
	_ func(int, ...api.Event) []byte              = event.Bytes
	_ func(...api.Event) []api.Event              = event.Merge
	_ func(...api.Event) bool                     = event.Rises
	_ func(int, ...api.Event) int                 = event.Due
	_ func([]api.Event, []api.Event) bool         = event.Same
)

// The errors, the limits and the directions, by their numbers.
const (
	fine     = 0
	wrong    = 2
	tooLong  = 6
	tooMany  = 10
	maxData  = 65536
	maxCount = 4096
	maxWhole = 262144
	out      = 0
	in       = 1
	least    = math.MinInt64
	greatest = math.MaxInt64
)

// neither: numbers that are no direction.
var neither = []int{math.MinInt, math.MinInt32, -256, -2, -1, 2, 3, 7, 255, 256, 257, 1 << 32, 1<<32 + 1, math.MaxInt}

func ev(dir int, time int64, s string) api.Event {
	return api.Event{Dir: dir, Time: time, Data: []byte(s)}
}

// long: an event of so many bytes.
func long(dir, n int) api.Event { return api.Event{Dir: dir, Data: make([]byte, n)} }

func events(l ...api.Event) []api.Event { return l }

// plain: lists as they are compared here, without the package's own Same: an empty one is no other than a nil one.
func plain(l []api.Event) []api.Event {
	p := []api.Event{}
	for _, e := range l {
		p = append(p, api.Event{Dir: e.Dir, Time: e.Time, Data: append([]byte{}, e.Data...)})
	}
	return p
}

func equal(a, b []api.Event) bool { return reflect.DeepEqual(plain(a), plain(b)) }

func same(t *testing.T, what string, got, want []api.Event) {
	t.Helper()
	if !equal(got, want) {
		t.Errorf("%s: %v, wanted %v", what, got, want)
	}
}

func is[T comparable](t *testing.T, what string, got, want T) {
	t.Helper()
	if got != want {
		t.Errorf("%s: %v, wanted %v", what, got, want)
	}
}

func collect(t *testing.T, s iter.Seq[api.Event]) []api.Event {
	t.Helper()
	if s == nil {
		t.Fatal("Of: nil")
	}
	return slices.Collect(s)
}

// example: the chapter's.
func example() []api.Event {
	return events(ev(out, 1, "ab"), ev(in, 2, "x"), ev(out, 3, "c"), ev(in, 4, "y"), ev(out, 5, "d"))
}

// mixed: neighbours, events without bytes, and directions that are none.
func mixed() []api.Event {
	return events(ev(in, 9, ""), ev(out, 7, "a"), ev(7, 7, ""), ev(out, 3, ""), ev(out, 5, "bc"), ev(-1, 0, "q"), ev(-1, 1, "r"), ev(in, least, "x"), ev(out, 0, ""), ev(in, greatest, "yz"), ev(2, 2, "s"), ev(out, 4, "d"))
}

// rows goes through all lists of up to so many events, of both directions and of one that is none, without bytes, with one, and with two. Their Times and bytes differ from place to place.
func rows(most int, look func(l []api.Event)) {
	var grow func(l []api.Event)
	grow = func(l []api.Event) {
		look(l)
		if len(l) == most {
			return
		}
		for _, dir := range []int{out, in, 7} {
			for n := range 3 {
				c := byte(2 * len(l))
				e := api.Event{Dir: dir, Time: int64(len(l)*37%5) - 2, Data: []byte{c, c + 1}[:n:n]}
				grow(append(slices.Clip(l), e))
			}
		}
	}
	grow(nil)
}

// one: a byte of an event.
type one struct {
	dir  int
	time int64
	c    byte
}

// ones: all bytes of events, one by one.
func ones(l []api.Event) []one {
	var u []one
	for _, e := range l {
		for _, c := range e.Data {
			u = append(u, one{e.Dir, e.Time, c})
		}
	}
	return u
}

// P4.1: Check.

func checks(t *testing.T, what string, want api.Errno, l ...api.Event) {
	t.Helper()
	if e := event.Check(l...); e != want {
		t.Errorf("Check of %s: %v, wanted %v", what, e, want)
	}
}

func TestCheckOfWhatIsRight(t *testing.T) {
	checks(t, "nothing", fine)
	checks(t, "a nil list", fine, nil...)
	checks(t, "an empty list", fine, []api.Event{}...)
	checks(t, "the example", fine, example()...)
	checks(t, "the zero event", fine, api.Event{})
	checks(t, "no bytes", fine, ev(out, 0, ""), ev(in, 0, ""), api.Event{Dir: in})
	checks(t, "any Times", fine, ev(out, greatest, "a"), ev(in, least, "b"), ev(in, 0, "c"), ev(out, -1, "d"))
}

func TestCheckOfHowMany(t *testing.T) {
	checks(t, "one less than MaxEvents", fine, make([]api.Event, maxCount-1)...)
	checks(t, "MaxEvents", fine, make([]api.Event, maxCount)...)
	checks(t, "one more than MaxEvents", tooMany, make([]api.Event, maxCount+1)...)
	checks(t, "many more", tooMany, make([]api.Event, 3*maxCount)...)
}

// That there are too many is told ahead of all that is wrong with any of them.
func TestTooManyGoAhead(t *testing.T) {
	for _, bad := range []api.Event{ev(2, 0, ""), long(out, maxData+1), long(-1, maxData+1)} {
		for _, at := range []int{0, 1, maxCount - 1, maxCount} {
			l := make([]api.Event, maxCount+1)
			l[at] = bad
			checks(t, "too many, one of them wrong", tooMany, l...)
		}
		l := make([]api.Event, maxCount)
		l[maxCount-1] = bad
		if event.Check(l...) == tooMany || event.Check(l...) == fine {
			t.Error("the last one of MaxEvents is looked at, too")
		}
	}
}

func TestCheckOfADirThatIsNone(t *testing.T) {
	for _, dir := range neither {
		checks(t, "one of another Dir", wrong, ev(dir, 0, "a"))
		checks(t, "one of another Dir, without bytes", wrong, ev(dir, 0, ""))
		checks(t, "another Dir behind others", wrong, append(example(), ev(dir, 0, "a"))...)
		checks(t, "another Dir ahead of others", wrong, append(events(ev(dir, 0, "a")), example()...)...)
	}
}

func TestCheckOfLongData(t *testing.T) {
	for _, dir := range []int{out, in} {
		checks(t, "one byte less than MaxData", fine, long(dir, maxData-1))
		checks(t, "MaxData bytes", fine, long(dir, maxData))
		checks(t, "one byte more than MaxData", tooLong, long(dir, maxData+1))
		checks(t, "more than MaxWhole at once", tooLong, long(dir, maxWhole+1))
		checks(t, "too long a last one", tooLong, append(example(), long(dir, maxData+1))...)
	}
}

func TestCheckOfTheWhole(t *testing.T) {
	full := events(long(out, maxData), long(in, maxData), long(in, maxData), long(out, maxData))
	checks(t, "MaxWhole bytes", fine, full...)
	checks(t, "MaxWhole bytes, and events without any", fine, append(slices.Clip(full), api.Event{}, ev(in, 0, ""))...)
	for _, dir := range []int{out, in} {
		checks(t, "one byte more than MaxWhole", tooLong, append(slices.Clip(full), ev(dir, 0, "a"))...)
		checks(t, "many more than MaxWhole", tooLong, append(slices.Clip(full), long(dir, maxData))...)
		checks(t, "one byte more, behind an event without any", tooLong, append(slices.Clip(full), api.Event{}, ev(dir, 0, "a"))...)
		checks(t, "one byte more at the front", tooLong, append(events(ev(dir, 0, "a")), full...)...)
		checks(t, "one byte more in the middle", tooLong, full[0], full[1], ev(dir, 0, "a"), full[2], full[3])
	}
	short := append(slices.Clip(full[:3]), long(in, maxData-1))
	checks(t, "MaxWhole bytes less one", fine, short...)
	checks(t, "MaxWhole bytes, the last one alone", fine, append(slices.Clip(short), ev(out, 0, "a"))...)
	checks(t, "a byte more behind that", tooLong, append(slices.Clip(short), ev(out, 0, "a"), ev(in, 0, "b"))...)
	checks(t, "two bytes behind it at once", tooLong, append(slices.Clip(short), ev(out, 0, "ab"))...)
}

// MaxWhole bytes in MaxEvents events: both bounds at once.
func TestCheckOfManySmallOnes(t *testing.T) {
	var l []api.Event
	for i := range maxCount {
		l = append(l, long(i%2, maxWhole/maxCount))
	}
	checks(t, "all that may be", fine, l...)
	l[17] = long(in, maxWhole/maxCount+1)
	checks(t, "one byte more", tooLong, l...)
	l[17].Dir = 2
	checks(t, "a wrong one ahead of that", wrong, l...)
}

// Of several wrong events the first one's error is told; of one event its Dir goes ahead of its length.
func TestTheFirstWrongOne(t *testing.T) {
	checks(t, "a long one of another Dir", wrong, long(2, maxData+1))
	checks(t, "a wrong one, a long one", wrong, ev(-1, 0, ""), long(out, maxData+1))
	checks(t, "a long one, a wrong one", tooLong, long(out, maxData+1), ev(-1, 0, ""))
	checks(t, "right ones, a long one, a wrong one", tooLong, append(example(), long(in, maxData+1), ev(9, 0, "a"))...)
	checks(t, "right ones, a wrong one, a long one", wrong, append(example(), ev(9, 0, "a"), long(in, maxData+1))...)
	full := events(long(out, maxData), long(out, maxData), long(out, maxData), long(out, maxData))
	checks(t, "too much in all by a wrong one", wrong, append(slices.Clip(full), ev(2, 0, "x"))...)
	checks(t, "too much in all, then a wrong one", tooLong, append(slices.Clip(full), ev(in, 0, "x"), ev(2, 0, "x"))...)
	checks(t, "a wrong one, then too much in all", wrong, append(events(ev(2, 0, "x")), append(full, ev(in, 0, "x"))...)...)
}

// As the document's words say it.
func checkAsAsked(l []api.Event) api.Errno {
	for i, e := range l {
		switch {
		case e.Dir != out && e.Dir != in:
			return wrong
		case len(e.Data) > maxData || len(ones(l[:i+1])) > maxWhole:
			return tooLong
		}
	}
	return fine
}

func TestCheckAsTheDocumentAsks(t *testing.T) {
	rows(4, func(l []api.Event) {
		if e, want := event.Check(l...), checkAsAsked(l); e != want {
			t.Fatalf("Check(%v): %v, wanted %v", l, e, want)
		}
	})
	big := make([]byte, maxData+1)
	lengths := []int{0, 1, maxData - 1, maxData, maxData + 1}
	for n := range 5 * 5 * 5 * 5 * 5 {
		var l []api.Event
		for k, i := n, 0; i < 5; k, i = k/5, i+1 {
			l = append(l, api.Event{Dir: i % 2, Data: big[:lengths[k%5]]})
		}
		sum, want := 0, api.Errno(fine)
		for _, e := range l {
			if sum += len(e.Data); len(e.Data) > maxData || sum > maxWhole {
				want = tooLong
			}
		}
		if e := event.Check(l...); e != want {
			t.Fatalf("Check of lengths %d: %v, wanted %v", n, e, want)
		}
	}
}

// P4.2: Of, Bytes, Same.

func TestOfADirection(t *testing.T) {
	l := example()
	same(t, "Of(Out)", collect(t, event.Of(out, l...)), events(l[0], l[2], l[4]))
	same(t, "Of(In)", collect(t, event.Of(in, l...)), events(l[1], l[3]))
	l = mixed()
	same(t, "Of(Out)", collect(t, event.Of(out, l...)), events(l[1], l[3], l[4], l[8], l[11]))
	same(t, "Of(In)", collect(t, event.Of(in, l...)), events(l[0], l[7], l[9]))
	same(t, "Of(-1)", collect(t, event.Of(-1, l...)), events(l[5], l[6]))
	same(t, "Of(7)", collect(t, event.Of(7, l...)), events(l[2]))
	same(t, "Of(3)", collect(t, event.Of(3, l...)), nil)
}

func TestOfNothing(t *testing.T) {
	for _, dir := range append([]int{out, in}, neither...) {
		same(t, "Of nothing", collect(t, event.Of(dir)), nil)
		same(t, "Of a nil list", collect(t, event.Of(dir, nil...)), nil)
		same(t, "Of an empty list", collect(t, event.Of(dir, []api.Event{}...)), nil)
		is(t, "Bytes of nothing", len(event.Bytes(dir)), 0)
		is(t, "Bytes of an empty list", len(event.Bytes(dir, []api.Event{}...)), 0)
	}
}

// A number that is no direction is looked for like any other.
func TestOfADirThatIsNone(t *testing.T) {
	for _, dir := range neither {
		same(t, "Of another Dir, without one", collect(t, event.Of(dir, example()...)), nil)
		is(t, "Bytes of another Dir, without one", len(event.Bytes(dir, example()...)), 0)
		l := append(events(ev(dir, 3, "q")), append(example(), ev(dir, 2, ""), ev(dir, 1, "rs"))...)
		same(t, "Of another Dir", collect(t, event.Of(dir, l...)), events(ev(dir, 3, "q"), ev(dir, 2, ""), ev(dir, 1, "rs")))
		is(t, "Bytes of another Dir", string(event.Bytes(dir, l...)), "qrs")
		is(t, "Bytes(Out) beside another Dir", string(event.Bytes(out, l...)), "abcd")
		is(t, "Bytes(In) beside another Dir", string(event.Bytes(in, l...)), "xy")
	}
}

func TestOfMayBeLeft(t *testing.T) {
	l := mixed()
	s := event.Of(out, l...)
	all := collect(t, s)
	for n := range len(all) {
		var got []api.Event
		for e := range s {
			got = append(got, e)
			if len(got) > n {
				break
			}
		}
		same(t, "a range that is left", got, all[:n+1])
		told := 0
		s(func(api.Event) bool { // which is asked no more behind its false
			told++
			return told <= n
		})
		is(t, "events that were told", told, n+1)
	}
	same(t, "behind those that were left", collect(t, s), all)
}

func TestOfIsGoneThroughTwice(t *testing.T) {
	l := example()
	s := event.Of(out, l...)
	for range 3 {
		same(t, "Of(Out)", collect(t, s), events(l[0], l[2], l[4]))
	}
	pairs := 0
	for a := range s { // and one range within another
		k := 0
		for b := range s {
			want := events(l[0], l[2], l[4])
			same(t, "the inner one", events(b), want[k:k+1])
			same(t, "the outer one", events(a), want[pairs/3:pairs/3+1])
			k++
			pairs++
		}
	}
	is(t, "pairs", pairs, 9)
}

func TestBytesOfADirection(t *testing.T) {
	is(t, "Bytes(Out)", string(event.Bytes(out, example()...)), "abcd")
	is(t, "Bytes(In)", string(event.Bytes(in, example()...)), "xy")
	is(t, "Bytes(Out)", string(event.Bytes(out, mixed()...)), "abcd")
	is(t, "Bytes(In)", string(event.Bytes(in, mixed()...)), "xyz")
	is(t, "Bytes(-1)", string(event.Bytes(-1, mixed()...)), "qr")
	is(t, "Bytes(7)", string(event.Bytes(7, mixed()...)), "")
	is(t, "any bytes", string(event.Bytes(in, ev(in, 0, "\x00\xff"), ev(in, 0, "\n\x80"))), "\x00\xff\n\x80")
}

func TestOfAndBytesAsTheDocumentAsks(t *testing.T) {
	rows(4, func(l []api.Event) {
		for _, dir := range []int{out, in, 7, 8} {
			var those []api.Event
			for _, e := range l {
				if e.Dir == dir {
					those = append(those, e)
				}
			}
			var b []byte
			for _, o := range ones(l) {
				if o.dir == dir {
					b = append(b, o.c)
				}
			}
			if got := slices.Collect(event.Of(dir, l...)); !equal(got, those) {
				t.Fatalf("Of(%d, %v): %v", dir, l, got)
			}
			if got := event.Bytes(dir, l...); !bytes.Equal(got, b) {
				t.Fatalf("Bytes(%d, %v): %v, wanted %v", dir, l, got, b)
			}
		}
	})
}

// sames: what Same tells of two lists, whichever comes first.
func sames(t *testing.T, what string, a, b []api.Event, want bool) {
	t.Helper()
	is(t, "Same of "+what, event.Same(a, b), want)
	is(t, "Same of "+what+", the other way", event.Same(b, a), want)
}

func TestSameLists(t *testing.T) {
	sames(t, "two nil ones", nil, nil, true)
	sames(t, "a nil one and an empty one", nil, []api.Event{}, true)
	sames(t, "one and its like", example(), example(), true)
	sames(t, "one and its like", mixed(), mixed(), true)
	l := mixed()
	sames(t, "one and itself", l, l, true)
	sames(t, "nil Data and empty Data", events(api.Event{Dir: in, Time: 3}), events(ev(in, 3, "")), true)
	sames(t, "Data with memory behind it", events(ev(in, 3, "a")), events(api.Event{Dir: in, Time: 3, Data: []byte("abc")[:1]}), true)
}

func TestListsThatAreNotTheSame(t *testing.T) {
	sames(t, "a list and none", example(), nil, false)
	sames(t, "the zero event and none", events(api.Event{}), nil, false)
	sames(t, "an event without bytes, and none", append(example(), ev(in, 5, "")), example(), false)
	for n := range len(mixed()) {
		sames(t, "a list and its beginning", mixed(), mixed()[:n], false)
		sames(t, "a list and its end", mixed(), mixed()[n+1:], false)
		for what, change := range map[string]func(*api.Event){
			"another Dir":        func(e *api.Event) { e.Dir += 2 },
			"a far Dir":          func(e *api.Event) { e.Dir ^= math.MinInt },
			"another Time":       func(e *api.Event) { e.Time++ },
			"a far Time":         func(e *api.Event) { e.Time ^= 1 << 40 },
			"a byte more":        func(e *api.Event) { e.Data = append(e.Data, 0) },
			"a byte more, ahead": func(e *api.Event) { e.Data = append([]byte{0}, e.Data...) },
		} {
			l := mixed()
			change(&l[n])
			sames(t, what, l, mixed(), false)
		}
	}
	sames(t, "Out and In", events(ev(out, 0, "a")), events(ev(in, 0, "a")), false)
	sames(t, "the first byte", events(ev(out, 0, "ab")), events(ev(out, 0, "bb")), false)
	sames(t, "the last byte", events(ev(out, 0, "ab")), events(ev(out, 0, "aB")), false)
	sames(t, "the least and the greatest Time", events(ev(out, least, "a")), events(ev(out, greatest, "a")), false)
	sames(t, "another order", events(ev(out, 0, "a"), ev(in, 0, "b")), events(ev(in, 0, "b"), ev(out, 0, "a")), false)
	sames(t, "bytes that are cut elsewhere", events(ev(out, 0, "ab"), ev(out, 0, "c")), events(ev(out, 0, "a"), ev(out, 0, "bc")), false)
	sames(t, "what Merge makes one", events(ev(out, 0, "a"), ev(out, 0, "b")), events(ev(out, 0, "ab")), false)
}

func TestSameAsTheDocumentAsks(t *testing.T) {
	var all [][]api.Event
	rows(2, func(l []api.Event) { all = append(all, l) })
	for _, a := range all {
		for _, b := range all {
			if got := event.Same(a, b); got != equal(a, b) {
				t.Fatalf("Same(%v, %v): %v", a, b, got)
			}
		}
	}
}

// P4.3: Merge, Rises.

func TestMergeOfNeighbours(t *testing.T) {
	same(t, "the example, which has none", event.Merge(example()...), example())
	same(t, "two", event.Merge(ev(out, 1, "a"), ev(out, 2, "b")), events(ev(out, 1, "ab")))
	same(t, "three", event.Merge(ev(in, 4, "a"), ev(in, 4, "bc"), ev(in, 4, "d")), events(ev(in, 4, "abcd")))
	same(t, "rows", event.Merge(ev(in, 1, "a"), ev(in, 2, "b"), ev(out, 3, "c"), ev(in, 4, "d"), ev(out, 5, "e"), ev(out, 6, "f")),
		events(ev(in, 1, "ab"), ev(out, 3, "c"), ev(in, 4, "d"), ev(out, 5, "ef")))
	same(t, "other Dirs, too", event.Merge(mixed()...),
		events(ev(out, 7, "abc"), ev(-1, 0, "qr"), ev(in, least, "xyz"), ev(2, 2, "s"), ev(out, 4, "d")))
}

func TestMergeOfEventsWithoutBytes(t *testing.T) {
	same(t, "nothing", event.Merge(), nil)
	same(t, "an empty list", event.Merge([]api.Event{}...), nil)
	same(t, "the zero event", event.Merge(api.Event{}), nil)
	same(t, "none with bytes", event.Merge(ev(out, 1, ""), ev(in, 2, ""), ev(7, 3, ""), api.Event{Dir: in}), nil)
	for _, dir := range append([]int{out, in}, neither...) {
		e := ev(dir, 2, "")
		same(t, "between neighbours", event.Merge(ev(out, 1, "a"), e, ev(out, 3, "b")), events(ev(out, 1, "ab")))
		same(t, "two of them", event.Merge(ev(in, 1, "a"), e, e, ev(in, 3, "b")), events(ev(in, 1, "ab")))
		same(t, "between others", event.Merge(ev(out, 1, "a"), e, ev(in, 3, "b")), events(ev(out, 1, "a"), ev(in, 3, "b")))
		same(t, "at the end", event.Merge(ev(out, 1, "a"), e), events(ev(out, 1, "a")))
		// The first one's Time is that of the first one with bytes.
		same(t, "at the front", event.Merge(e, ev(out, 3, "b")), events(ev(out, 3, "b")))
		same(t, "at the front of neighbours", event.Merge(e, ev(in, 3, "b"), e, ev(in, 4, "c")), events(ev(in, 3, "bc")))
	}
}

func TestMergeOfDirsThatAreNone(t *testing.T) {
	for i, dir := range neither {
		same(t, "neighbours", event.Merge(ev(dir, 1, "a"), ev(dir, 2, "b")), events(ev(dir, 1, "ab")))
		same(t, "beside Out", event.Merge(ev(dir, 1, "a"), ev(out, 2, "b")), events(ev(dir, 1, "a"), ev(out, 2, "b")))
		same(t, "beside In", event.Merge(ev(in, 1, "a"), ev(dir, 2, "b")), events(ev(in, 1, "a"), ev(dir, 2, "b")))
		other := neither[(i+1)%len(neither)]
		same(t, "two others", event.Merge(ev(dir, 1, "a"), ev(other, 2, "b")), events(ev(dir, 1, "a"), ev(other, 2, "b")))
		same(t, "between neighbours", event.Merge(ev(out, 1, "a"), ev(dir, 2, "b"), ev(out, 3, "c")), events(ev(out, 1, "a"), ev(dir, 2, "b"), ev(out, 3, "c")))
	}
}

func TestMergeTellsTheFirstTime(t *testing.T) {
	times := []int64{least, -1, 0, 1, greatest}
	for _, a := range times {
		for _, b := range times {
			same(t, "Times", event.Merge(ev(out, a, "x"), ev(out, b, "y")), events(ev(out, a, "xy")))
			same(t, "Times of two", event.Merge(ev(out, a, "x"), ev(in, b, "y"), ev(in, a, "z")), events(ev(out, a, "x"), ev(in, b, "yz")))
		}
	}
}

// What is merged may have more bytes than an event of a transcript, and be of more events than one has.
func TestMergeOfMuch(t *testing.T) {
	m := event.Merge(long(in, maxData), long(in, maxData), long(in, maxData), long(in, maxData), ev(in, 0, "a"))
	if len(m) != 1 || len(m[0].Data) != maxWhole+1 || m[0].Data[maxWhole] != 'a' {
		t.Error("five long ones:", len(m))
	}
	l := make([]api.Event, 3*maxCount)
	for i := range l {
		l[i] = ev(out, int64(i), "a")
	}
	same(t, "many", event.Merge(l...), events(ev(out, 0, string(bytes.Repeat([]byte("a"), len(l))))))
	for i := range l {
		l[i].Dir = i % 2
	}
	same(t, "many without neighbours", event.Merge(l...), l)
}

// As the document's words say it, byte by byte: another event begins where the direction changes.
func mergeAsAsked(l []api.Event) []api.Event {
	var m []api.Event
	for i, u := 0, ones(l); i < len(u); i++ {
		if i == 0 || u[i].dir != u[i-1].dir {
			m = append(m, api.Event{Dir: u[i].dir, Time: u[i].time})
		}
		m[len(m)-1].Data = append(m[len(m)-1].Data, u[i].c)
	}
	return m
}

func TestMergeAsTheDocumentAsks(t *testing.T) {
	rows(5, func(l []api.Event) {
		m := event.Merge(l...)
		if want := mergeAsAsked(l); !equal(m, want) {
			t.Fatalf("Merge(%v): %v, wanted %v", l, m, want)
		}
		if again := event.Merge(m...); !equal(again, m) {
			t.Fatalf("Merge of %v, which is merged: %v", m, again)
		}
	})
}

func rises(t *testing.T, want bool, times ...int64) {
	t.Helper()
	var l []api.Event
	for i, x := range times {
		l = append(l, ev(neither[i%len(neither)], x, "a"[:i%2])) // neither a Dir nor bytes make a difference
	}
	if got := event.Rises(l...); got != want {
		t.Errorf("Rises of %v: %v", times, got)
	}
}

func TestRises(t *testing.T) {
	is(t, "Rises()", event.Rises(), true)
	is(t, "Rises of an empty list", event.Rises([]api.Event{}...), true)
	is(t, "Rises of the example", event.Rises(example()...), true)
	rises(t, true, 0)
	rises(t, true, least)
	rises(t, true, greatest)
	rises(t, true, 4, 4)
	rises(t, true, 4, 4, 4, 5, 5)
	rises(t, true, -3, -2, 0, 0, 7)
	rises(t, true, least, greatest)
	rises(t, true, least, least, least+1, -1, 0, 1, greatest-1, greatest, greatest)
}

func TestRisesNot(t *testing.T) {
	rises(t, false, 2, 1)
	rises(t, false, 0, -1)
	rises(t, false, greatest, least)
	rises(t, false, greatest, greatest-1)
	rises(t, false, least+1, least)
	rises(t, false, 0, least)
	rises(t, false, 2, 1, 9)
	rises(t, false, 1, 2, 3, 2)
	rises(t, false, 1, 5, 4, 5) // less than the one ahead, not than the first one
	rises(t, false, 1, 2, 9, 3, 10)
}

func TestRisesAsTheDocumentAsks(t *testing.T) {
	times := []int64{least, -1, 0, 1, greatest}
	for n := range 5 * 5 * 5 * 5 {
		l := []int64{times[n%5], times[n/5%5], times[n/25%5], times[n/125]}
		rises(t, slices.IsSorted(l), l...)
	}
}

// P4.4: Due.

func TestExampleOfDue(t *testing.T) {
	for told, want := range map[int]int{0: 2, 1: 3, 2: 4} {
		is(t, "Due of the example", event.Due(told, example()...), want)
	}
}

func TestDueAtTheEnds(t *testing.T) {
	for told, want := range map[int]int{math.MinInt: 0, math.MinInt32: 0, -2: 0, -1: 0, 3: 4, 100: 4, math.MaxInt32: 4, math.MaxInt - 1: 4, math.MaxInt: 4} {
		is(t, "Due of the example", event.Due(told, example()...), want)
		is(t, "Due of nothing", event.Due(told), 0)
		is(t, "Due of an empty list", event.Due(told, []api.Event{}...), 0)
		is(t, "Due of what the user says alone", event.Due(told, ev(in, 0, "abc")), 0)
		is(t, "Due of what the child says alone", event.Due(told, ev(out, 0, "ab"), ev(out, 0, "cd")), want)
	}
	is(t, "Due(0) of what the child says alone", event.Due(0, ev(out, 0, "abc")), 3)
}

// The user's bytes are counted, not the user's events.
func TestDueBehindSomeBytes(t *testing.T) {
	l := events(ev(in, 0, "xyz"), ev(out, 0, "ab"), ev(in, 0, ""), ev(out, 0, "c"), ev(in, 0, "w"), ev(in, 0, "v"), ev(out, 0, "def"))
	for told, want := range []int{0, 0, 0, 3, 3, 6, 6} {
		is(t, "Due", event.Due(told, l...), want)
	}
	is(t, "Due(-1)", event.Due(-1, l...), 0)
}

// Of a Dir that is neither, bytes are neither due nor ahead.
func TestDueOfDirsThatAreNone(t *testing.T) {
	for _, dir := range neither {
		q := ev(dir, 0, "qqqq")
		l := events(q, ev(out, 0, "ab"), q, ev(in, 0, "x"), q, ev(out, 0, "c"), ev(in, 0, "y"), ev(out, 0, "d"), q)
		for told, want := range map[int]int{-1: 0, 0: 2, 1: 3, 2: 4, 9: 4} {
			is(t, "Due beside another Dir", event.Due(told, l...), want)
		}
		is(t, "Due of another Dir alone", event.Due(9, q), 0)
	}
}

// Times make no difference: those that are ahead in the list are ahead.
func TestDueHangsOnTheOrderAlone(t *testing.T) {
	l := events(ev(in, greatest, "x"), ev(out, least, "a"))
	is(t, "Due(0)", event.Due(0, l...), 0)
	is(t, "Due(1)", event.Due(1, l...), 1)
}

// As the document's words say it, byte by byte.
func dueAsAsked(told int, l []api.Event) int {
	due, u := 0, ones(l)
	for i, o := range u {
		ahead := 0
		for _, p := range u[:i] {
			if p.dir == in {
				ahead++
			}
		}
		if o.dir == out && ahead <= told {
			due++
		}
	}
	return due
}

func TestDueAsTheDocumentAsks(t *testing.T) {
	rows(4, func(l []api.Event) {
		for told := -1; told <= 9; told++ {
			if got, want := event.Due(told, l...), dueAsAsked(told, l); got != want {
				t.Fatalf("Due(%d, %v): %d, wanted %d", told, l, got, want)
			}
		}
	})
}

// P4.5: what follows.

func TestMergedBytesStay(t *testing.T) {
	stay := func(l []api.Event) {
		m := event.Merge(l...)
		for _, dir := range []int{out, in, 7, 8, -1} {
			if a, b := event.Bytes(dir, l...), event.Bytes(dir, m...); !bytes.Equal(a, b) {
				t.Fatalf("Bytes(%d) of %v: %v, and merged %v", dir, l, a, b)
			}
		}
		for told := -1; told <= 9; told++ { // and so does what is due
			if a, b := event.Due(told, l...), event.Due(told, m...); a != b {
				t.Fatalf("Due(%d) of %v: %d, and merged %d", told, l, a, b)
			}
		}
	}
	rows(4, stay)
	stay(mixed())
}

func TestDueOfAllThatTheUserSaid(t *testing.T) {
	all := func(l []api.Event) {
		said, heard := len(event.Bytes(out, l...)), len(event.Bytes(in, l...))
		for _, told := range []int{heard, heard + 1, heard + 100, math.MaxInt} {
			if n := event.Due(told, l...); n != said {
				t.Fatalf("Due(%d, %v): %d, wanted %d", told, l, n, said)
			}
		}
	}
	rows(5, all)
	all(mixed())
	// With one byte less what the child said last isn't due yet.
	is(t, "Due of one byte less", event.Due(1, example()...), 3)
}

// DOC.md, rules 4 and 7, and P2: memory.

// guarded: events whose lists have known memory behind their lengths, and all that they held.
type guarded struct {
	whole  []api.Event // l, and one more behind it
	l      []api.Event
	before []api.Event
}

const spare = "spare"

func guard(l []api.Event) guarded {
	whole := make([]api.Event, len(l)+1)
	for i, e := range l {
		whole[i] = e
		whole[i].Data = append(bytes.Clone(e.Data), spare...)[:len(e.Data)]
	}
	whole[len(l)] = ev(out, 77, "behind")
	return guarded{whole, whole[:len(l)], plain(l)}
}

// untouched: all is as it was, also behind the lengths.
func (g guarded) untouched(t *testing.T, what string) {
	t.Helper()
	same(t, what+" left the events", g.l, g.before)
	for _, e := range g.l {
		if n := len(e.Data); string(e.Data[:n+len(spare)][n:]) != spare {
			t.Errorf("%s wrote behind the length of %v", what, e)
		}
	}
	same(t, what+" left what is behind", g.whole[len(g.l):], events(ev(out, 77, "behind")))
}

// spoil writes into all the memory that events have, also behind their lengths.
func spoil(l []api.Event) {
	l = l[:cap(l)]
	for i := range l {
		spoilBytes(l[i].Data)
		l[i] = ev(5, 5, "spoilt")
	}
}

func spoilBytes(b []byte) {
	b = b[:cap(b)]
	for i := range b {
		b[i] = '!'
	}
}

func TestNothingHandedInIsChanged(t *testing.T) {
	for _, l := range [][]api.Event{nil, events(ev(out, 1, "a")), example(), mixed(), events(ev(out, 1, "a"), ev(out, 2, "b"), ev(out, 3, ""), ev(out, 4, "cd"))} {
		g := guard(l)
		event.Check(g.l...)
		event.Rises(g.l...)
		event.Due(1, g.l...)
		event.Same(g.l, g.l)
		g.untouched(t, "asking")
		for _, dir := range []int{out, in, -1, 7} {
			spoilBytes(event.Bytes(dir, g.l...))
			g.untouched(t, "what Bytes answered")
			for e := range event.Of(dir, g.l...) {
				spoilBytes(e.Data)
			}
			g.untouched(t, "what Of told")
			spoil(slices.Collect(event.Of(dir, g.l...)))
			g.untouched(t, "what Of told")
		}
		spoil(event.Merge(g.l...))
		g.untouched(t, "what Merge answered")
	}
}

// What was answered stays, whatever becomes of what was handed in, and of other answers.
func TestAnswersShareNoMemory(t *testing.T) {
	for _, l := range [][]api.Event{events(ev(out, 1, "abcd")), example(), mixed(), events(ev(out, 1, "a"), ev(out, 2, "b"), ev(out, 3, ""), ev(out, 4, "cd"))} {
		g := guard(l)
		b, m, s := event.Bytes(out, g.l...), event.Merge(g.l...), event.Of(out, g.l...)
		ahead := slices.Collect(s)
		spoilBytes(event.Bytes(out, g.l...))
		spoil(event.Merge(g.l...))
		spoil(slices.Collect(event.Of(out, g.l...)))
		spoil(g.whole)
		is(t, "Bytes", string(b), "abcd")
		same(t, "Merge", m, mergeAsAsked(l))
		want := plain(l)
		want = slices.DeleteFunc(want, func(e api.Event) bool { return e.Dir != out })
		same(t, "Of that was gone through", ahead, want)
		same(t, "Of", collect(t, s), want)
	}
}

// Of was asked of what was there then: what becomes of it on the way isn't seen.
func TestOfIsOfWhatWasHandedIn(t *testing.T) {
	l := example()
	k := 0
	for e := range event.Of(out, l...) {
		spoil(l)
		same(t, "while it is gone through", events(e), events(example()[2*k]))
		k++
	}
	is(t, "how many", k, 3)
	l = events(ev(in, 0, "x"))
	s := event.Of(out, l...)
	l[0].Dir = out
	same(t, "none then", collect(t, s), nil)
}

// Each range over Of tells memory of its own: what is written into one's isn't told by the next.
func TestRangesOverOfShareNoMemory(t *testing.T) {
	s := event.Of(out, example()...)
	want := events(ev(out, 1, "ab"), ev(out, 3, "c"), ev(out, 5, "d"))
	first := slices.Collect(s)
	for e := range s {
		spoilBytes(e.Data)
	}
	same(t, "the one ahead", first, want)
	spoil(first)
	same(t, "the one behind", collect(t, s), want)
}

// The lists of one answer are apart: to write into one, up to its capacity, or to append to it, changes no other.
func TestListsOfOneAnswerAreApart(t *testing.T) {
	shared := []byte("abcdef")
	l := events(api.Event{Dir: out, Data: shared[:2]}, api.Event{Dir: in, Data: shared[2:4]}, api.Event{Dir: out, Data: shared[1:5]}, api.Event{Dir: out, Data: shared[:2]})
	m := event.Merge(l...)
	o := slices.Collect(event.Of(out, l...))
	same(t, "Merge", m, events(ev(out, 0, "ab"), ev(in, 0, "cd"), ev(out, 0, "bcdeab")))
	same(t, "Of(Out)", o, events(ev(out, 0, "ab"), ev(out, 0, "bcde"), ev(out, 0, "ab")))
	spoilBytes(append(m[0].Data, "zzz"...))
	spoilBytes(m[0].Data)
	spoilBytes(append(o[0].Data, "zzz"...))
	spoilBytes(o[0].Data)
	same(t, "the others of Merge", m[1:], events(ev(in, 0, "cd"), ev(out, 0, "bcdeab")))
	same(t, "the others of Of", o[1:], events(ev(out, 0, "bcde"), ev(out, 0, "ab")))
	is(t, "what was handed in", string(shared), "abcdef")
}

// What lies behind a length is neither read nor handed out.
func TestNothingBehindALengthIsToldOf(t *testing.T) {
	g := guard(events(ev(out, 1, "a"), ev(out, 2, "b"), ev(in, 3, "x")))
	is(t, "Bytes", string(event.Bytes(out, g.l...)), "ab")
	is(t, "Due", event.Due(9, g.l...), 2)
	is(t, "Same", event.Same(g.l, events(ev(out, 1, "a"), ev(out, 2, "b"), ev(in, 3, "x"))), true)
	lists := [][]byte{event.Bytes(out, g.l...), event.Bytes(in, g.l...)}
	for _, e := range append(event.Merge(g.l...), slices.Collect(event.Of(out, g.l...))...) {
		lists = append(lists, e.Data)
	}
	for _, b := range lists {
		if bytes.Contains(b[:cap(b)], []byte(spare[:1])) {
			t.Errorf("%q was handed out", b[:cap(b)])
		}
	}
}

// What is asked again is answered again.
func TestAnswersHangOnArgumentsAlone(t *testing.T) {
	l := mixed()
	m, b, s := event.Merge(l...), event.Bytes(in, l...), event.Of(out, l...)
	for range 3 {
		same(t, "Merge", event.Merge(l...), m)
		is(t, "Bytes", string(event.Bytes(in, l...)), string(b))
		same(t, "Of", collect(t, event.Of(out, l...)), collect(t, s))
		event.Merge(example()...)
		event.Check(append(l, long(out, maxData+1))...)
		is(t, "Check", event.Check(example()...), fine)
	}
}
