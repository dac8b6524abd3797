package tail_test

import (
	"bytes"
	"fmt"
	"math"
	"slices"
	"strings"
	"testing"
	"time"

	"cuecard/api"
	"cuecard/tail"
)

// The signatures are part of what is asked: a change of one must not build.
var (
	_ func([]byte) int                        = tail.Shortest
	_ func([]byte, int) ([][]byte, api.Errno) = tail.Pieces
	_ func([]byte, ...[]byte) (int, bool)     = tail.Factors
)

// The limit and the error, by their numbers.
const (
	maxPiece = 1048576
	ranged   = 3
)

func is[T comparable](t *testing.T, what string, got, want T) {
	t.Helper()
	if got != want {
		t.Errorf("%s: %v, wanted %v", what, got, want)
	}
}

// told: lists of bytes as one text; it tells lists apart that are cut in other places.
func told(l [][]byte) string {
	var b strings.Builder
	for _, p := range l {
		fmt.Fprintf(&b, "%d:%s,", len(p), p)
	}
	return b.String()
}

func lists(l ...string) [][]byte {
	var all [][]byte
	for _, s := range l {
		all = append(all, []byte(s))
	}
	return all
}

// The document's words, taken as they stand: what is held against the package.

// stands: whether a pattern stands at a place of a text (layer 8).
func stands(text, p []byte, place int) bool {
	return place+len(p) <= len(text) && string(text[place:place+len(p)]) == string(p)
}

func wantShortest(t []byte) int {
	for n := 1; n <= len(t); n++ {
		end, times := t[len(t)-n:], 0
		for place := range len(t) + 1 {
			if stands(t, end, place) {
				times++
			}
		}
		if times == 1 {
			return n
		}
	}
	return 0
}

func wantPieces(t []byte, most int) [][]byte {
	if len(t) == 0 {
		return nil
	}
	if n := wantShortest(t); n <= most {
		return [][]byte{t[len(t)-n:]}
	}
	var l [][]byte
	for ; len(t) > most; t = t[most:] {
		l = append(l, t[:most])
	}
	return append(l, t)
}

func wantFactors(stream []byte, l [][]byte) (int, bool) {
	ended := 0
	for _, p := range l {
		place := ended
		for place <= len(stream) && !stands(stream, p, place) {
			place++
		}
		if place > len(stream) {
			return 0, false
		}
		ended = place + len(p)
	}
	return ended, true
}

// rows: all texts of at most so many bytes, each one of so many kinds.
func rows(kindsOf, most int) [][]byte {
	all := [][]byte{{}}
	for i := 0; len(all[i]) < most; i++ {
		for k := range kindsOf {
			all = append(all, append(slices.Clone(all[i]), 'a'+byte(k)))
		}
	}
	return all
}

// chance: numbers that are the same in every run.
type chance uint32

func (c *chance) below(n int) int {
	*c = *c*1664525 + 1013904223
	return int(*c>>8) % n
}

// row: bytes of few kinds, some of them copied from what stands ahead, so that there are long ends that stand twice.
func (c *chance) row(n, kindsOf int) []byte {
	var l []byte
	for len(l) < n {
		if len(l) > 0 && c.below(3) == 0 {
			from := c.below(len(l))
			l = append(l, l[from:from+1+c.below(len(l)-from)]...)
		} else {
			l = append(l, 'a'+byte(c.below(kindsOf)))
		}
	}
	return l[:n]
}

// inTime: it ends, and in less time than it would take to hold each end against each place.
func inTime(t *testing.T, what string, do func()) {
	t.Helper()
	done := make(chan bool)
	go func() {
		defer close(done)
		do()
	}()
	select {
	case <-done:
	case <-time.After(time.Minute):
		t.Fatal(what, "takes too long")
	}
}

// P9.1: Shortest.

func TestShortest(t *testing.T) {
	for _, c := range []struct {
		text string
		want int
	}{
		{"login: ", 1}, // the chapter's examples
		{"abab", 3},
		{"aaa", 3},
		{"login:", 1},
		{"", 0},
		{"a", 1},
		{"\x00", 1},
		{"ab", 1},
		{"aa", 2},
		{"aba", 2},
		{"abb", 2}, // b stands twice, bb once
		{"aab", 1},
		{"abcabc", 4}, // bc and abc stand twice
		{"abcbc", 3},  // not at the beginning, but within
		{"abcdbca", 2},
		{"aaab", 1},
		{"baaa", 3},
		{"aaabaaa", 4}, // aaa at the beginning, too
		{"abaabaaba", 7},
		{"abaabaabaab", 9},
		{"aaaaaaaa", 8},
		{"xaxxax", 4},
		{"$ ls\r\n$ ", 3},
		{"\xff\x00\xff\x00", 3},
		{"\xc3\xa4\xc3\xb6\xc3\xa4", 3}, // bytes, not runes
		{"a\xe4", 1},
	} {
		is(t, fmt.Sprintf("Shortest of %q", c.text), tail.Shortest([]byte(c.text)), c.want)
		is(t, fmt.Sprintf("what the words ask of %q", c.text), wantShortest([]byte(c.text)), c.want)
	}
	is(t, "Shortest of a nil text", tail.Shortest(nil), 0)
}

func TestShortestOfOneByteEach(t *testing.T) {
	all := make([]byte, 256)
	for i := range all {
		all[i] = byte(i)
		is(t, "one byte", tail.Shortest(all[i:i+1]), 1)
		is(t, "the same byte, twice", tail.Shortest([]byte{all[i], all[i]}), 2)
	}
	is(t, "all bytes", tail.Shortest(all), 1)
	is(t, "all bytes, twice", tail.Shortest(append(all, all...)), 257)
}

func TestShortestOfAllShortTexts(t *testing.T) {
	for _, c := range []struct{ kindsOf, most int }{{1, 20}, {2, 12}, {3, 8}, {4, 6}} {
		for _, text := range rows(c.kindsOf, c.most) {
			if got, want := tail.Shortest(text), wantShortest(text); got != want {
				t.Fatalf("Shortest of %q: %d, wanted %d", text, got, want)
			}
		}
	}
}

func TestShortestOfLongerTexts(t *testing.T) {
	for seed := range 400 {
		c := chance(seed)
		text := c.row(c.below(200), 1+seed%5)
		if got, want := tail.Shortest(text), wantShortest(text); got != want {
			t.Fatalf("Shortest of %q: %d, wanted %d", text, got, want)
		}
	}
}

// The longest texts of which it is asked: of as many bytes as a piece may have, and some more.
func TestShortestOfLongTexts(t *testing.T) {
	same := bytes.Repeat([]byte("a"), maxPiece+1)
	inTime(t, "a text of the same bytes", func() {
		is(t, "all the same", tail.Shortest(same), maxPiece+1)
		is(t, "another one last", tail.Shortest(append(same, 'b')), 1)
		is(t, "another one first", tail.Shortest(append([]byte("b"), same...)), maxPiece+1)
		is(t, "another one between", tail.Shortest(slices.Concat(same, []byte("b"), same)), maxPiece+2)
	})
	inTime(t, "a text of two bytes, again and again", func() {
		is(t, "two by two", tail.Shortest(bytes.Repeat([]byte("ab"), maxPiece)), 2*maxPiece-1)
	})
	words := [2][]byte{[]byte("b"), []byte("a")} // each one is the two ahead of it
	for len(words[1]) < maxPiece {
		words[0], words[1] = words[1], slices.Concat(words[1], words[0])
	}
	inTime(t, "a text of texts", func() {
		n := tail.Shortest(words[1])
		end := words[1][len(words[1])-n:]
		is(t, "where the end stands first", bytes.Index(words[1], end), len(words[1])-n)
		is(t, "whether a shorter one stands ahead", bytes.Index(words[1], end[1:]) < len(words[1])-n+1, true)
	})
}

// P9.2: Pieces.

// holdsPieces: Pieces of a text by so many bytes, which are right to ask for.
func holdsPieces(t *testing.T, text string, most int, want ...string) {
	t.Helper()
	l, e := tail.Pieces([]byte(text), most)
	is(t, fmt.Sprintf("the error of Pieces(%q, %d)", text, most), e, api.OK)
	is(t, fmt.Sprintf("Pieces(%q, %d)", text, most), told(l), told(lists(want...)))
}

func TestPieces(t *testing.T) {
	holdsPieces(t, "aaaa", 3, "aaa", "a") // the chapter's example
	holdsPieces(t, "abab", 3, "bab")      // and the whole's
	holdsPieces(t, "abab", 2, "ab", "ab")
	holdsPieces(t, "login:", 1, ":")
	holdsPieces(t, "login:", 2, ":") // the end alone, no longer than it needs be
	holdsPieces(t, "login:", 6, ":")
	holdsPieces(t, "login:", maxPiece, ":")
	holdsPieces(t, "login: ", 1, " ")
	holdsPieces(t, "a", 1, "a")
	holdsPieces(t, "a", maxPiece, "a")
	holdsPieces(t, "aa", 1, "a", "a")
	holdsPieces(t, "aa", 2, "aa")
	holdsPieces(t, "abcabcab", 6, "cabcab") // as long as most
	holdsPieces(t, "abcabcab", 7, "cabcab")
	holdsPieces(t, "abcabcab", 5, "abcab", "cab") // one longer than most: the whole text
	holdsPieces(t, "abcabcab", 4, "abca", "bcab") // nothing is left
	holdsPieces(t, "abcabcab", 3, "abc", "abc", "ab")
	holdsPieces(t, "abcabcab", 2, "ab", "ca", "bc", "ab")
	holdsPieces(t, "abcabcab", 1, "a", "b", "c", "a", "b", "c", "a", "b")
	holdsPieces(t, "aaaaa", 4, "aaaa", "a")
	holdsPieces(t, "aaaaa", 5, "aaaaa")
	holdsPieces(t, "aaaaa", maxPiece, "aaaaa")
	holdsPieces(t, "\x00\xff\x00\xff", 2, "\x00\xff", "\x00\xff")
	holdsPieces(t, "\x00\xff\x00\xff", 3, "\xff\x00\xff")
}

func TestPiecesOfNothing(t *testing.T) {
	for _, none := range [][]byte{nil, {}, []byte("abc")[:0]} {
		for _, most := range []int{1, 2, maxPiece - 1, maxPiece} {
			l, e := tail.Pieces(none, most)
			is(t, "how many", len(l), 0)
			is(t, "the error", e, api.OK)
		}
	}
}

func TestPiecesOfNoSize(t *testing.T) {
	wrong := []int{math.MinInt, math.MinInt + 1, math.MinInt32, -maxPiece, -2, -1, 0, maxPiece + 1, maxPiece + 2, 2 * maxPiece, math.MaxInt32, 1 << 32, 1<<32 + 1, 1<<32 + maxPiece, math.MaxInt - 1, math.MaxInt}
	for _, most := range wrong {
		for _, text := range []string{"", "a", "aa", "login: ", strings.Repeat("a", 100)} {
			l, e := tail.Pieces([]byte(text), most)
			is(t, fmt.Sprintf("the error of Pieces(%q, %d)", text, most), e, api.Errno(ranged))
			is(t, "how many", len(l), 0)
		}
		l, e := tail.Pieces(nil, most)
		is(t, "the error of no text", e, api.ErrRange)
		is(t, "how many", len(l), 0)
	}
}

func TestPiecesOfAllShortTexts(t *testing.T) {
	for _, c := range []struct{ kindsOf, most int }{{1, 20}, {2, 10}, {3, 6}} {
		for _, text := range rows(c.kindsOf, c.most) {
			for most := 1; most <= len(text)+2; most++ {
				l, e := tail.Pieces(text, most)
				if want := wantPieces(text, most); told(l) != told(want) || e != api.OK {
					t.Fatalf("Pieces(%q, %d): %q, %v, wanted %q", text, most, l, e, want)
				}
			}
		}
	}
}

func TestPiecesOfLongTexts(t *testing.T) {
	text := bytes.Repeat([]byte("a"), 2*maxPiece+1)
	inTime(t, "Pieces", func() {
		for _, c := range []struct{ n, most, pieces, last int }{
			{maxPiece, maxPiece, 1, maxPiece}, // the shortest end is the text
			{maxPiece + 1, maxPiece, 2, 1},
			{2 * maxPiece, maxPiece, 2, maxPiece},
			{2*maxPiece + 1, maxPiece, 3, 1},
			{2*maxPiece + 1, maxPiece - 1, 3, 3},
			{maxPiece, 1, maxPiece, 1},
			{maxPiece, 3, maxPiece/3 + 1, 1},
		} {
			l, e := tail.Pieces(text[:c.n], c.most)
			is(t, "the error", e, api.OK)
			is(t, "how many", len(l), c.pieces)
			is(t, "the last one", len(l[len(l)-1]), c.last)
			for _, p := range l[:len(l)-1] {
				if len(p) != c.most {
					t.Fatal("a piece of", len(p), "where", c.most, "is asked")
				}
			}
			is(t, "the whole", bytes.Equal(slices.Concat(l...), text[:c.n]), true)
		}
		l, e := tail.Pieces(append(text, '$'), 1)
		is(t, "the error", e, api.OK)
		is(t, "the end alone", told(l), "1:$,")
	})
}

// Rule 4: what is answered is new memory, each piece's, too; what is handed in is neither changed nor kept.

// spoil: writes over all of a list's memory, also what lies behind its length.
func spoil(l []byte) {
	l = l[:cap(l)]
	for i := range l {
		l[i] = '#'
	}
}

func TestPiecesAreNewMemory(t *testing.T) {
	for _, c := range []struct {
		text string
		most int
	}{{"login: ", 1}, {"abab", 3}, {"aaaa", 4}, {"aaaaaaa", 3}, {"abababab", 2}, {"aaaaa", 1}} {
		text := []byte(c.text)
		want := told(wantPieces([]byte(c.text), c.most))
		for i := range wantPieces(text, c.most) { // whoever spoils one spoils nothing else
			l, e := tail.Pieces(text, c.most)
			other, _ := tail.Pieces(text, c.most)
			is(t, "the error", e, api.OK)
			is(t, "ahead of it", told(l), want)
			spoil(l[i])
			l[i] = other[i]
			is(t, "the other pieces", told(l), want)
			is(t, "the text", string(text), c.text)
			is(t, "another answer", told(other), want)
		}
		l, _ := tail.Pieces(text, c.most)
		spoil(text)
		is(t, "behind a change of the text", told(l), want)
	}
}

// Nothing that lies around a text in its memory is read, written or handed out.
func TestOnlyTheTextIsLookedAt(t *testing.T) {
	whole := []byte("baba" + "abcabcab" + "cabb")
	text := whole[4:12]
	is(t, "Shortest", tail.Shortest(text), 6)
	for most := 1; most < 10; most++ {
		l, e := tail.Pieces(text, most)
		is(t, "the error", e, api.OK)
		is(t, "Pieces", told(l), told(wantPieces([]byte("abcabcab"), most)))
		for _, p := range l {
			for _, b := range p[len(p):cap(p)] {
				is(t, "what lies behind a piece", b, 0)
			}
		}
	}
	at, ok := tail.Factors(text, text[6:8], text[5:8]) // they lie in the stream
	is(t, "Factors", at, 5)
	is(t, "Factors, whether", ok, true)
	_, ok = tail.Factors(text, []byte("abcabcabc")) // which goes on behind it
	is(t, "behind the stream", ok, false)
	is(t, "what was handed in, and lies around it", string(whole), "babaabcabcabcabb")
}

// P9.3: Factors.

func holdsFactors(t *testing.T, stream string, want int, l ...string) {
	t.Helper()
	at, ok := tail.Factors([]byte(stream), lists(l...)...)
	is(t, fmt.Sprintf("Factors(%q, %q), whether", stream, l), ok, true)
	is(t, fmt.Sprintf("Factors(%q, %q)", stream, l), at, want)
}

func holdsNoFactors(t *testing.T, stream string, l ...string) {
	t.Helper()
	at, ok := tail.Factors([]byte(stream), lists(l...)...)
	is(t, fmt.Sprintf("Factors(%q, %q), whether", stream, l), ok, false)
	is(t, fmt.Sprintf("Factors(%q, %q)", stream, l), at, 0)
}

func TestFactors(t *testing.T) {
	holdsFactors(t, "login: ", 6, ":")
	holdsFactors(t, "xaybaz", 5, "a", "b", "a")
	holdsFactors(t, "abab", 2, "ab")         // its first place
	holdsFactors(t, "abab", 4, "ab", "ab")   // and its first one behind that
	holdsFactors(t, "ababab", 5, "ab", "ba") // which isn't the one at 1
	holdsFactors(t, "aaaaa", 4, "aa", "aa")  // they don't overlap
	holdsFactors(t, "aaa", 3, "aa", "a")     // one may begin where the one ahead ended
	holdsFactors(t, "abc", 3, "abc")         // all of it
	holdsFactors(t, "abc", 3, "a", "b", "c")
	holdsFactors(t, "xxabxxcdxx", 8, "ab", "cd")
	holdsFactors(t, "\x00\xff\x00", 3, "\xff", "\x00")
	holdsFactors(t, "aab", 3, "ab") // a beginning that is given up
	holdsFactors(t, "abacabacabad", 12, "abacabad")
}

func TestFactorsThatAreNot(t *testing.T) {
	holdsNoFactors(t, "", "a")
	holdsNoFactors(t, "a", "b")
	holdsNoFactors(t, "a", "aa")
	holdsNoFactors(t, "ab", "ab", "a")
	holdsNoFactors(t, "aba", "ab", "ba") // ahead of where the one ahead ended
	holdsNoFactors(t, "aaa", "aa", "aa") // they would overlap
	holdsNoFactors(t, "ab", "b", "a")    // another order
	holdsNoFactors(t, "aba", "c", "a")   // as soon as one has no such place
	holdsNoFactors(t, "aba", "a", "c")
	holdsNoFactors(t, "aba", "a", "c", "")
	holdsNoFactors(t, "aba", "c", "", "a")
	holdsNoFactors(t, "abab", "ab", "ab", "ab")
	// Each at its first place: that another one would let all of them stand makes no difference.
	holdsNoFactors(t, "aXabYb", "a", "b", "aX")
	holdsNoFactors(t, "cabab", "ab", "cab")
}

func TestFactorsOfNothing(t *testing.T) {
	holdsFactors(t, "", 0)
	holdsFactors(t, "abc", 0)
	holdsFactors(t, "", 0, "")
	holdsFactors(t, "", 0, "", "", "")
	holdsFactors(t, "abc", 0, "", "")
	holdsFactors(t, "abc", 1, "a", "")
	holdsFactors(t, "abc", 3, "c", "") // at the stream's length, too
	holdsFactors(t, "abc", 2, "", "b", "", "")
	holdsNoFactors(t, "", "", "a")
	holdsNoFactors(t, "abc", "c", "", "c")
	for _, none := range [][]byte{nil, {}} {
		for _, l := range [][][]byte{nil, {}, {nil}, {{}}, {nil, {}, nil}} {
			at, ok := tail.Factors(none, l...)
			is(t, "nothing in nothing", at, 0)
			is(t, "nothing in nothing, whether", ok, true)
			at, ok = tail.Factors([]byte("a"), l...)
			is(t, "nothing in a", at, 0)
			is(t, "nothing in a, whether", ok, true)
		}
		at, ok := tail.Factors(none, none, []byte("a"), none)
		is(t, "a in nothing", at, 0)
		is(t, "a in nothing, whether", ok, false)
	}
}

func TestFactorsOfAllShortTexts(t *testing.T) {
	texts := rows(2, 3)
	for _, stream := range rows(2, 7) {
		for _, a := range texts {
			for _, b := range texts {
				for _, c := range [][][]byte{{a}, {a, b}, {a, b, []byte("a")}, {[]byte("b"), a, b}} {
					at, ok := tail.Factors(stream, c...)
					if want, wantOk := wantFactors(stream, c); at != want || ok != wantOk {
						t.Fatalf("Factors(%q, %q): %d, %v, wanted %d, %v", stream, c, at, ok, want, wantOk)
					}
				}
			}
		}
	}
}

func TestFactorsOfLongerTexts(t *testing.T) {
	for seed := range 600 {
		c := chance(seed)
		stream := c.row(c.below(300), 1+seed%4)
		var l [][]byte
		for from := 0; from < len(stream) && c.below(30) > 0; { // mostly pieces of the stream, in its order
			upTo := from + c.below(min(9, len(stream)-from+1))
			l = append(l, stream[from:upTo])
			from = upTo + c.below(20)
		}
		if seed%5 == 0 {
			l = append(l, c.row(c.below(6), 1+seed%4))
		}
		at, ok := tail.Factors(stream, l...)
		if want, wantOk := wantFactors(stream, l); at != want || ok != wantOk {
			t.Fatalf("Factors(%q, %q): %d, %v, wanted %d, %v", stream, l, at, ok, want, wantOk)
		}
	}
}

func TestFactorsChangeNothing(t *testing.T) {
	stream, l := []byte("abcabcab"), lists("bc", "", "a")
	for range 2 { // nothing is kept: the same answer again
		at, ok := tail.Factors(stream, l...)
		is(t, "Factors", at, 4)
		is(t, "Factors, whether", ok, true)
	}
	is(t, "the stream", string(stream), "abcabcab")
	is(t, "the texts", told(l), "2:bc,0:,1:a,")
	l[0] = []byte("ca")
	at, ok := tail.Factors(stream, l...)
	is(t, "of others", at, 7)
	is(t, "of others, whether", ok, true)
}

// Each text is looked for from where the one ahead ended on: the whole takes no longer than one way through the stream.
func TestFactorsOfLongTexts(t *testing.T) {
	stream := bytes.Repeat([]byte("a"), 2*maxPiece)
	inTime(t, "Factors", func() {
		l := make([][]byte, maxPiece)
		for i := range l {
			l[i] = stream[:2]
		}
		at, ok := tail.Factors(stream, l...)
		is(t, "two by two", at, 2*maxPiece)
		is(t, "two by two, whether", ok, true)
		at, ok = tail.Factors(stream, append(l, stream[:1])...)
		is(t, "one more", at, 0)
		is(t, "one more, whether", ok, false)
		at, ok = tail.Factors(append(stream, 'b'), append(slices.Clone(stream[maxPiece:]), 'b'))
		is(t, "a long one", at, 2*maxPiece+1)
		is(t, "a long one, whether", ok, true)
	})
}

// P9.4: a text's pieces end just at its end.

// met: where in a stream that comes byte by byte the last one of texts is met, as who awaits one after the other sees it; -1 if it isn't.
func met(stream []byte, l [][]byte) int {
	begin, next := 0, 0
	for n := range len(stream) + 1 {
		for next < len(l) && bytes.HasSuffix(stream[begin:n], l[next]) {
			begin, next = n, next+1
		}
		if next == len(l) {
			return n
		}
	}
	return -1
}

// endsThere: whether what is awaited of a text is met at its end, whatever follows it, and nowhere ahead of that.
func endsThere(t *testing.T, text []byte, most int, follow []byte) {
	t.Helper()
	l, e := tail.Pieces(text, most)
	stream := slices.Concat(text, follow)
	at, ok := tail.Factors(stream, l...)
	if e != api.OK || at != len(text) || !ok || met(stream, l) != len(text) {
		t.Fatalf("%q by %d, followed by %q: %v, Factors %d, %v, met %d", text, most, follow, e, at, ok, met(stream, l))
	}
	for _, p := range l {
		if len(p) < 1 || len(p) > most {
			t.Fatalf("%q by %d: a piece of %d", text, most, len(p))
		}
	}
	if len(text) > 0 {
		if at, ok = tail.Factors(text[:len(text)-1], l...); at != 0 || ok {
			t.Fatalf("%q by %d: met at %d already", text, most, at)
		}
	}
}

func TestPiecesEndAtTheEnd(t *testing.T) {
	follows := rows(2, 4)
	for _, text := range rows(2, 8) {
		for most := 1; most <= len(text)+1; most++ {
			for _, follow := range follows {
				endsThere(t, text, most, follow)
			}
		}
	}
}

// The likeliest ones to be met too early or too late: what follows is the text itself, or its end.
func TestPiecesEndAtTheEndOfLongerTexts(t *testing.T) {
	for seed := range 300 {
		c := chance(seed)
		text := c.row(c.below(150), 1+seed%4)
		from := c.below(len(text) + 1)
		for _, most := range []int{1, 2, 3, 1 + c.below(150), 150, maxPiece} {
			endsThere(t, text, most, nil)
			endsThere(t, text, most, text)
			endsThere(t, text, most, text[from:])
			endsThere(t, text, most, c.row(20, 1+seed%4))
		}
	}
}

// Text behind text: what is awaited of each one, from where the one ahead ended on.
func TestTextBehindText(t *testing.T) {
	for seed := range 200 {
		c := chance(seed)
		var stream []byte
		var l [][]byte
		for range 1 + c.below(6) {
			text := c.row(c.below(30), 1+seed%3)
			pieces, _ := tail.Pieces(text, 1+c.below(8))
			if got := met(text, pieces); got != len(text) {
				t.Fatalf("%q: met at %d", text, got)
			}
			stream, l = append(stream, text...), append(l, pieces...)
			at, ok := tail.Factors(stream, l...)
			if at != len(stream) || !ok {
				t.Fatalf("%q: Factors %d, %v", stream, at, ok)
			}
		}
	}
}

// P1: no call panics, whatever the bytes and the number.
func FuzzTail(f *testing.F) {
	f.Add([]byte("login: "), []byte("abab"), 3)
	f.Add([]byte("aaaa"), []byte{}, math.MinInt)
	f.Add([]byte{}, []byte{0, 255}, math.MaxInt)
	f.Fuzz(func(t *testing.T, text, other []byte, most int) {
		text = text[:min(len(text), 300)] // what it is held against takes long
		is(t, "Shortest", tail.Shortest(text), wantShortest(text))
		at, ok := tail.Factors(text, other, text)
		wantAt, wantOk := wantFactors(text, [][]byte{other, text})
		is(t, "Factors", at, wantAt)
		is(t, "Factors, whether", ok, wantOk)
		if most >= 1 && most <= maxPiece {
			endsThere(t, text, most, other)
			return
		}
		l, e := tail.Pieces(text, most)
		is(t, "how many", len(l), 0)
		is(t, "the error", e, api.ErrRange)
	})
}
