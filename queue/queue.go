// Package queue is layer 1: see shared/doc/01-queue.md.
package queue

import (
	"iter"
	"slices"

	"cuecard/api"
)

// Queue is things that wait, of which there is room for so many.
type Queue[T any] struct {
	waiting []T
	room    int
	ended   bool
}

// New is an open queue without things; its memory grows with what waits, since most queues never fill their room.
func New[T any](room int) (*Queue[T], api.Errno) {
	if room < 1 || room > api.MaxRoom {
		return nil, api.ErrRange
	}
	return &Queue[T]{room: room}, api.OK
}

// Put lets some wait behind all others, as many as there is room for, and tells how many these are.
func (q *Queue[T]) Put(x ...T) int {
	if q == nil {
		return 0
	}
	n := min(len(x), q.Room())
	q.waiting = append(q.waiting, x[:n]...)
	return n
}

// Take are the first ones, which wait no more.
func (q *Queue[T]) Take(n int) []T {
	if q == nil {
		return nil
	}
	taken := q.Peek(n)
	// What was taken is wiped, so that the queue's memory holds on to nothing that waits no more.
	clear(q.waiting[:len(taken)])
	q.waiting = q.waiting[len(taken):]
	return taken
}

// Peek are the first ones, which still wait.
func (q *Queue[T]) Peek(n int) []T {
	n = min(n, q.Len())
	if n < 1 {
		return nil
	}
	return slices.Clone(q.waiting[:n])
}

// Len is how many wait.
func (q *Queue[T]) Len() int {
	if q == nil {
		return 0
	}
	return len(q.waiting)
}

// Room is how many more may wait.
func (q *Queue[T]) Room() int {
	if q == nil || q.ended {
		return 0
	}
	return q.room - len(q.waiting)
}

// End says that no more come, for good.
func (q *Queue[T]) End() {
	if q != nil {
		q.ended = true
	}
}

// Over asks whether no more come, and none waits.
func (q *Queue[T]) Over() bool {
	return q != nil && q.ended && len(q.waiting) == 0
}

// All are those that wait now: they are copied before the function is handed out, so that whoever goes through them may use the queue meanwhile.
func (q *Queue[T]) All() iter.Seq[T] {
	return slices.Values(q.Peek(q.Len()))
}
