package match

import "math/bits"

// size is how many places a word holds.
const size = 64

// places are some places of a text, a bit each, since there may be as many as a span may have bytes.
type places struct {
	words []uint64
	begin int // the place of the first word's first bit
}

// add is one place more, that is greater than all ahead of it.
func (p *places) add(place int) {
	if len(p.words) == 0 {
		p.begin = place
	}
	word, bit := (place-p.begin)/size, (place-p.begin)%size
	for len(p.words) <= word {
		p.words = append(p.words, 0)
	}
	p.words[word] |= 1 << bit
}

// least is the least place from one on. Those ahead of that are left behind: it must not be asked for them again.
func (p *places) least(from int) (int, bool) {
	for len(p.words) > 0 {
		if from > p.begin {
			p.words[0] &^= 1<<(from-p.begin) - 1
		}
		if p.words[0] != 0 {
			return p.begin + bits.TrailingZeros64(p.words[0]), true
		}
		p.words = p.words[1:]
		p.begin += size
	}
	return 0, false
}
