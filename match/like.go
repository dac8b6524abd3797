package match

import (
	"slices"

	"cuecard/api"
	"cuecard/glob"
)

// nowhere is told where there is no place.
const nowhere = -1

// lookGlob looks for texts that are like a right pattern.
// It cuts the pattern at its first *. What is ahead of that must stand at the least place that isn't too far back, and what is behind it at the greatest one, since that leaves the most room between both: so no byte that came is looked at again, however long such a text may be.
func lookGlob(most int, p string) look {
	things := thingsOf(p)
	ahead := slices.IndexFunc(things, thing.any)
	if ahead < 0 {
		return lookRow(most, things)
	}
	head, tail := newTrail(things[:ahead]), newTrail(things[ahead+1:])
	var heads places
	return func(came int, c byte) (int, bool) {
		if came == 0 {
			heads = places{}
		}
		if at := head.tell(came, c); at != nowhere {
			heads.add(at)
		}
		last := tail.tell(came, c)
		from, ok := heads.least(came - most)
		return from, ok && from+ahead <= last
	}
}

// lookRow looks for texts that are like things that are like one byte each: there is but one place for these.
func lookRow(most int, things []thing) look {
	row := newTrail(things)
	return func(came int, c byte) (int, bool) {
		from := row.tell(came, c)
		return from, from != nowhere && came-from <= most
	}
}

// thing is a piece of a pattern: it asks whether a byte is like it, or is nil, where any bytes are.
type thing func(c byte) bool

// any asks whether any bytes are like it.
func (x thing) any() bool { return x == nil }

// thingsOf are a right pattern's things. Each is the shortest beginning of what is left that is right by itself: so what a pattern is stays layer 13's alone.
func thingsOf(p string) []thing {
	var l []thing
	for p != "" {
		n := 1
		for glob.Check(p[:n]) != api.OK {
			n++
		}
		l = append(l, thingOf(p[:n]))
		p = p[n:]
	}
	return l
}

// thingOf asks layer 13 of each byte once only, when it comes first, since that goes through the thing each time.
func thingOf(p string) thing {
	if p == "*" {
		return nil
	}
	var asked, is [256]bool
	return func(c byte) bool {
		if !asked[c] {
			is[c], _ = glob.Match(p, string([]byte{c}))
			asked[c] = true
		}
		return is[c]
	}
}

// trail goes through bytes as they come, and knows of the first 0, 1, 2, .. things, up to all, the greatest place from which on to the last byte these are like the things.
type trail struct {
	things []thing
	from   []int
}

func newTrail(things []thing) *trail {
	return &trail{things: things, from: make([]int, len(things)+1)}
}

// tell is that place of all things, or nowhere, when so many bytes came, the last one of which is c. It begins anew when none came.
func (t *trail) tell(came int, c byte) int {
	if came == 0 {
		for i := range t.from {
			t.from[i] = nowhere
		}
	}
	was := t.from[0] // of the things ahead of the next one, a byte ago
	t.from[0] = came
	for i, is := range t.things {
		now := nowhere
		if is.any() {
			now = max(t.from[i], t.from[i+1])
		} else if was != nowhere && is(c) {
			now = was
		}
		was, t.from[i+1] = t.from[i+1], now
	}
	return t.from[len(t.things)]
}
