package queue_test

import (
	"iter"
	"math"
	"runtime"
	"slices"
	"strconv"
	"testing"
	"time"

	"cuecard/api"
	"cuecard/queue"
)

// The signatures are part of what is asked: a change of one must not build.
var (
	_ func(int) (*queue.Queue[string], api.Errno) = queue.New[string]
	_ func(*queue.Queue[string], ...string) int   = (*queue.Queue[string]).Put
	_ func(*queue.Queue[string], int) []string    = (*queue.Queue[string]).Take
	_ func(*queue.Queue[string], int) []string    = (*queue.Queue[string]).Peek
	_ func(*queue.Queue[string]) int              = (*queue.Queue[string]).Len
	_ func(*queue.Queue[string]) int              = (*queue.Queue[string]).Room
	_ func(*queue.Queue[string])                  = (*queue.Queue[string]).End
	_ func(*queue.Queue[string]) bool             = (*queue.Queue[string]).Over
	_ func(*queue.Queue[string]) iter.Seq[string] = (*queue.Queue[string]).All
)

// kinds: a queue is generic, so a kind may be anything, also what can't be compared.
type kinds struct {
	f func()
	l []byte
}

const (
	mostRoom   = 65536 // MaxRoom, by its number
	outOfRange = 3     // ErrRange, by its number
)

func opened[T any](t *testing.T, room int) *queue.Queue[T] {
	t.Helper()
	q, e := queue.New[T](room)
	if q == nil || e != api.OK {
		t.Fatalf("New(%d): %v, %v", room, q, e)
	}
	return q
}

func filled(t *testing.T, room int, x ...int) *queue.Queue[int] {
	t.Helper()
	q := opened[int](t, room)
	if n := q.Put(x...); n != len(x) {
		t.Fatalf("Put of %d: %d", len(x), n)
	}
	return q
}

func upTo(n int) []int {
	l := make([]int, n)
	for i := range l {
		l[i] = i
	}
	return l
}

func same(t *testing.T, what string, got []int, want ...int) {
	t.Helper()
	if !slices.Equal(got, want) {
		t.Errorf("%s: %v, wanted %v", what, got, want)
	}
}

func is[T comparable](t *testing.T, what string, got, want T) {
	t.Helper()
	if got != want {
		t.Errorf("%s: %v, wanted %v", what, got, want)
	}
}

// tells: all that a queue tells of itself, without changing it.
func tells(t *testing.T, q *queue.Queue[int], free int, over bool, waiting ...int) {
	t.Helper()
	is(t, "Len", q.Len(), len(waiting))
	is(t, "Room", q.Room(), free)
	is(t, "Over", q.Over(), over)
	same(t, "Peek", q.Peek(math.MaxInt), waiting...)
	same(t, "All", slices.Collect(q.All()), waiting...)
}

// P1.1: what New answers, and of a new queue.

func TestNewRefuses(t *testing.T) {
	for _, n := range []int{math.MinInt, -mostRoom, -1, 0, mostRoom + 1, 2 * mostRoom, math.MaxInt32, math.MaxInt} {
		q, e := queue.New[int](n)
		if q != nil || e != outOfRange || e.Error() != "error 3" {
			t.Errorf("New(%d): %v, %v", n, q, e)
		}
	}
}

func TestNewIsOpenAndEmpty(t *testing.T) {
	for _, n := range []int{1, 2, 3, 100, mostRoom - 1, mostRoom} {
		tells(t, opened[int](t, n), n, false)
	}
}

func TestRoomFollowsLen(t *testing.T) {
	q := opened[int](t, 4)
	q.Put(1, 2, 3)
	tells(t, q, 1, false, 1, 2, 3)
	q.Peek(2)
	tells(t, q, 1, false, 1, 2, 3)
	q.Take(2)
	tells(t, q, 3, false, 3)
	q.Take(1)
	tells(t, q, 4, false) // empty and open: not over
}

func TestRoomAtTheEnd(t *testing.T) {
	q := filled(t, 4, 1, 2)
	q.End()
	tells(t, q, 0, false, 1, 2)
	same(t, "Take", q.Take(1), 1)
	tells(t, q, 0, false, 2)
	same(t, "Take", q.Take(1), 2)
	tells(t, q, 0, true)
}

func TestEndOfEmptyIsOver(t *testing.T) {
	q := opened[int](t, 4)
	q.End()
	tells(t, q, 0, true)
}

// P1.2: Put, Take, Peek, End.

func TestExample(t *testing.T) {
	q := opened[int](t, 3)
	is(t, "Put(1, 2)", q.Put(1, 2), 2)
	is(t, "Put(3, 4)", q.Put(3, 4), 1)
	same(t, "Take(2)", q.Take(2), 1, 2)
	is(t, "Room", q.Room(), 2)
	tells(t, q, 2, false, 3)
}

func TestPutTakesFromTheFirstOn(t *testing.T) {
	q := opened[int](t, 5)
	is(t, "Put()", q.Put(), 0)
	is(t, "Put(nil...)", q.Put(nil...), 0)
	tells(t, q, 5, false)
	is(t, "Put(1)", q.Put(1), 1)
	is(t, "Put(2 to 9)", q.Put(2, 3, 4, 5, 6, 7, 8, 9), 4)
	tells(t, q, 0, false, 1, 2, 3, 4, 5)
	is(t, "Put on a full one", q.Put(6), 0)
	is(t, "Put() on a full one", q.Put(), 0)
	tells(t, q, 0, false, 1, 2, 3, 4, 5)
	same(t, "Take", q.Take(1), 1)
	is(t, "Put again", q.Put(7, 8), 1)
	tells(t, q, 0, false, 2, 3, 4, 5, 7)
}

func TestRoomOfOne(t *testing.T) {
	q := opened[int](t, 1)
	for i := range 100 {
		is(t, "Put", q.Put(i, i+1), 1)
		is(t, "Put on a full one", q.Put(i+2), 0)
		tells(t, q, 0, false, i)
		same(t, "Take", q.Take(5), i)
		tells(t, q, 1, false)
	}
}

func TestGreatestRoom(t *testing.T) {
	q := opened[int](t, mostRoom)
	l := upTo(mostRoom + 3)
	is(t, "Put all but one", q.Put(l[:mostRoom-1]...), mostRoom-1)
	is(t, "Room", q.Room(), 1)
	is(t, "Put too many", q.Put(l[mostRoom-1:]...), 1)
	tells(t, q, 0, false, l[:mostRoom]...)
	same(t, "Take some", q.Take(1000), l[:1000]...)
	is(t, "Put behind", q.Put(upTo(mostRoom)...), 1000)
	same(t, "Take the rest", q.Take(mostRoom+1), slices.Concat(l[1000:mostRoom], l[:1000])...)
	tells(t, q, mostRoom, false)
}

func TestPutMoreThanTheGreatestRoomAtOnce(t *testing.T) {
	q := opened[int](t, mostRoom)
	is(t, "Put", q.Put(upTo(3*mostRoom)...), mostRoom)
	tells(t, q, 0, false, upTo(mostRoom)...)
}

func TestHowManyAreTaken(t *testing.T) {
	for _, c := range []struct {
		n    int
		want []int
	}{
		{math.MinInt, nil}, {-2, nil}, {-1, nil}, {0, nil}, {1, []int{5}}, {2, []int{5, 6}}, {3, []int{5, 6, 7}},
		{4, []int{5, 6, 7}}, {mostRoom + 1, []int{5, 6, 7}}, {math.MaxInt, []int{5, 6, 7}},
	} {
		q := filled(t, 8, 5, 6, 7)
		name := strconv.Itoa(c.n)
		same(t, "Peek "+name, q.Peek(c.n), c.want...)
		same(t, "Peek again "+name, q.Peek(c.n), c.want...)
		tells(t, q, 5, false, 5, 6, 7)
		same(t, "Take "+name, q.Take(c.n), c.want...)
		tells(t, q, 5+len(c.want), false, []int{5, 6, 7}[len(c.want):]...)
	}
}

func TestTakeOfNone(t *testing.T) {
	q := opened[int](t, 2)
	for _, n := range []int{math.MinInt, -1, 0, 1, math.MaxInt} {
		same(t, "Take", q.Take(n))
		same(t, "Peek", q.Peek(n))
	}
	tells(t, q, 2, false)
}

func TestEndIsForGood(t *testing.T) {
	q := filled(t, 3, 1, 2)
	q.End()
	is(t, "Put at the end", q.Put(9), 0)
	is(t, "Put() at the end", q.Put(), 0)
	tells(t, q, 0, false, 1, 2)
	q.End()
	tells(t, q, 0, false, 1, 2)
	same(t, "Peek", q.Peek(1), 1)
	same(t, "Take", q.Take(9), 1, 2)
	is(t, "Put when over", q.Put(9), 0)
	same(t, "Take when over", q.Take(9))
	q.End()
	tells(t, q, 0, true)
}

func TestEndOfAFullOne(t *testing.T) {
	q := filled(t, 2, 1, 2)
	q.End()
	same(t, "Take", q.Take(1), 1)
	is(t, "Put where there was room", q.Put(3), 0)
	tells(t, q, 0, false, 2)
}

// P1.3: All.

func TestAllIsWhatWaitedWhenItWasCalled(t *testing.T) {
	q := filled(t, 4, 1, 2, 3)
	all := q.All()
	q.Take(2)
	q.Put(4, 5, 6)
	q.End()
	same(t, "All", slices.Collect(all), 1, 2, 3)
	same(t, "All once more", slices.Collect(all), 1, 2, 3)
	tells(t, q, 0, false, 3, 4, 5, 6)
}

func TestAllOfEmptyStaysEmpty(t *testing.T) {
	q := opened[int](t, 4)
	all := q.All()
	q.Put(1, 2)
	same(t, "All", slices.Collect(all))
	same(t, "All anew", slices.Collect(q.All()), 1, 2)
}

func TestQueueIsUsedWhileAllIsGoneThrough(t *testing.T) {
	for name, use := range map[string]struct {
		do   func(q *queue.Queue[int], x int)
		free int
		left []int
	}{
		"Take": {func(q *queue.Queue[int], x int) { q.Take(1) }, 6, nil},
		"Put":  {func(q *queue.Queue[int], x int) { q.Put(x * 10) }, 0, []int{1, 2, 3, 10, 20, 30}},
		"both": {func(q *queue.Queue[int], x int) { q.Take(2); q.Put(x, x) }, 3, []int{2, 3, 3}},
		"End":  {func(q *queue.Queue[int], x int) { q.End() }, 0, []int{1, 2, 3}},
		"All":  {func(q *queue.Queue[int], x int) { _ = slices.Collect(q.All()) }, 3, []int{1, 2, 3}},
	} {
		t.Run(name, func(t *testing.T) {
			q := filled(t, 6, 1, 2, 3)
			var seen []int
			for x := range q.All() {
				seen = append(seen, x)
				use.do(q, x)
			}
			same(t, "All", seen, 1, 2, 3)
			tells(t, q, use.free, false, use.left...)
		})
	}
}

func TestAllMayBeLeft(t *testing.T) {
	q := filled(t, 3, 1, 2, 3)
	all := q.All()
	var seen []int
	for x := range all {
		seen = append(seen, x)
		if x == 2 {
			break
		}
	}
	same(t, "All till 2", seen, 1, 2)
	same(t, "All from the first one on", slices.Collect(all), 1, 2, 3)
	tells(t, q, 0, false, 1, 2, 3)
}

func TestAllAtTheEnd(t *testing.T) {
	q := filled(t, 3, 1, 2)
	q.End()
	all := q.All()
	q.Take(9)
	same(t, "All", slices.Collect(all), 1, 2)
	same(t, "All when over", slices.Collect(q.All()))
}

// P1.4: all that was put is taken, once each, in order.

func TestWhatIsPutIsTaken(t *testing.T) {
	for _, size := range []int{1, 2, 3, 7, 64, 1000} {
		for seed := range 20 {
			q := opened[int](t, size)
			var put, taken []int
			next := 0
			step := uint32(seed)*2654435761 + 1
			for range 400 {
				step = step*1664525 + 1013904223
				n := int(step>>16) % (size + 2)
				if step>>31 == 0 {
					l := upTo(next + n)[next:]
					k := q.Put(l...)
					is(t, "Put", k, min(n, size-(len(put)-len(taken))))
					put = append(put, l[:k]...)
					next += n
				} else {
					l := q.Take(n)
					is(t, "how many Take told", len(l), min(n, len(put)-len(taken)))
					taken = append(taken, l...)
				}
				is(t, "Len", q.Len(), len(put)-len(taken))
				is(t, "Room", q.Room(), size-q.Len())
				same(t, "what waits", q.Peek(size), put[len(taken):]...)
			}
			q.End()
			for !q.Over() {
				taken = append(taken, q.Take(3)...)
			}
			same(t, "all that was taken", taken, put...)
			if t.Failed() {
				t.Fatalf("room %d, seed %d", size, seed)
			}
		}
	}
}

// A great queue that stays full is used one by one, for long enough that its memory is laid anew several times.
func TestOneByOneInAGreatQueue(t *testing.T) {
	q := filled(t, mostRoom, upTo(mostRoom)...)
	for i := range 5 * mostRoom {
		l := q.Take(1)
		if len(l) != 1 || l[0] != i || q.Put(i+mostRoom) != 1 {
			t.Fatal(i, l)
		}
	}
	is(t, "Len", q.Len(), mostRoom)
}

// A nil queue, and P1: no call panics.

func TestNilQueue(t *testing.T) {
	var q *queue.Queue[int]
	q.End()
	is(t, "Put", q.Put(1, 2), 0)
	is(t, "Put()", q.Put(), 0)
	if q.All() == nil {
		t.Fatal("All is nil")
	}
	for _, n := range []int{math.MinInt, -1, 0, 1, math.MaxInt} {
		same(t, "Take", q.Take(n))
	}
	tells(t, q, 0, false)
	for x := range q.All() {
		t.Error("All tells", x)
	}
}

func TestAnyKind(t *testing.T) {
	q := opened[kinds](t, 2)
	is(t, "Put", q.Put(kinds{l: []byte{1}}, kinds{f: func() {}}, kinds{}), 2)
	l := q.Take(9)
	if len(l) != 2 || l[0].l[0] != 1 || l[1].f == nil {
		t.Error(l)
	}
	e := opened[struct{}](t, 2)
	is(t, "Put of what has no size", e.Put(make([]struct{}, 5)...), 2)
	is(t, "Peek of what has no size", len(e.Peek(5)), 2)
	is(t, "Take of what has no size", len(e.Take(1)), 1)
	is(t, "Len", e.Len(), 1)
	n := opened[error](t, 2)
	n.Put(nil, api.ErrArg)
	if l := n.Take(2); len(l) != 2 || l[0] != nil || l[1] != api.ErrArg {
		t.Error(l)
	}
}

// P2: queues that were made apart.

func TestQueuesAreApart(t *testing.T) {
	a, b := opened[int](t, 3), opened[int](t, 3)
	l := []int{1, 2}
	a.Put(l...)
	tells(t, b, 3, false)
	b.Put(l...)
	b.Put(7)
	tells(t, a, 1, false, 1, 2)
	a.Take(1)
	a.End()
	tells(t, b, 0, false, 1, 2, 7)
	b.Take(1)
	b.Put(a.Peek(1)...)
	a.Take(1)
	tells(t, a, 0, true)
	tells(t, b, 0, false, 2, 7, 2)
}

// Rule 4: what is handed in, and what is answered.

func TestPutKeepsAndChangesNothingOfItsList(t *testing.T) {
	whole := []int{1, 2, 3, 4, 5, 6}
	q := opened[int](t, 9)
	q.Put(whole[1:3]...)
	q.Put(10, 11)
	same(t, "Take", q.Take(1), 2)
	q.Put(12)
	same(t, "what was handed in, and lies around it", whole, 1, 2, 3, 4, 5, 6)
	for i := range whole {
		whole[i] = -1
	}
	tells(t, q, 5, false, 3, 10, 11, 12)
}

func TestPutOfMoreThanRoomLeavesTheListAsItIs(t *testing.T) {
	whole := []int{1, 2, 3, 4}
	q := opened[int](t, 2)
	q.Put(whole...)
	q.Take(1)
	q.Put(9)
	same(t, "what was handed in", whole, 1, 2, 3, 4)
}

// spoil: whoever has an answer may do anything to its memory.
func spoil(l []int) {
	l = l[:cap(l)]
	for i := range l {
		l[i] = -1
	}
}

func TestAnswersAreNewMemory(t *testing.T) {
	q := filled(t, 8, 1, 2, 3, 4, 5)
	all := q.All()
	first, second, taken := q.Peek(2), q.Peek(9), q.Take(2)
	spoil(first)
	same(t, "another Peek", second, 1, 2, 3, 4, 5)
	same(t, "Take", taken, 1, 2)
	tells(t, q, 5, false, 3, 4, 5)
	spoil(taken)
	tells(t, q, 5, false, 3, 4, 5)
	rest := q.Take(9)
	q.Put(6, 7, 8)
	same(t, "what was taken ahead of a Put", rest, 3, 4, 5)
	spoil(rest)
	spoil(second)
	tells(t, q, 5, false, 6, 7, 8)
	same(t, "All", slices.Collect(all), 1, 2, 3, 4, 5)
}

func TestAnswersStayAsTheyAre(t *testing.T) {
	q := filled(t, 4, 1, 2, 3, 4)
	peeked, taken, all := q.Peek(3), q.Take(3), q.All()
	for i := range 50 {
		q.Put(i, i, i)
		q.Take(2)
	}
	same(t, "Peek", peeked, 1, 2, 3)
	same(t, "Take", taken, 1, 2, 3)
	same(t, "All", slices.Collect(all), 4)
}

// What waits no more isn't held any longer: the collector may have it while the queue lives on.
func TestTakenThingsAreLetGo(t *testing.T) {
	gone := make(chan bool, 1)
	q := opened[*[64]byte](t, 4)
	func() {
		x := new([64]byte)
		runtime.AddCleanup(x, func(c chan bool) { c <- true }, gone)
		q.Put(x, new([64]byte), nil)
		q.Take(1)
	}()
	for range 50 {
		runtime.GC()
		select {
		case <-gone:
			is(t, "Len", q.Len(), 2)
			return
		case <-time.After(20 * time.Millisecond):
		}
	}
	t.Error("a thing that was taken is still held")
	runtime.KeepAlive(q)
}
