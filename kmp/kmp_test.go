package kmp_test

import (
	"bytes"
	"errors"
	"fmt"
	"iter"
	"math"
	"slices"
	"strconv"
	"strings"
	"testing"
	"time"

	"cuecard/kmp"
)

// The signatures are part of what is asked: a change of one must not build.
var (
	_ func(...string) *kmp.Search[string]        = kmp.New[string]
	_ func(*kmp.Search[string], string) bool     = (*kmp.Search[string]).Feed
	_ func(*kmp.Search[string]) int              = (*kmp.Search[string]).At
	_ func(*kmp.Search[string])                  = (*kmp.Search[string]).Reset
	_ func(...string) []int                      = kmp.Borders[string]
	_ func([]string, []string) iter.Seq[int]     = kmp.All[string]
	_ func([]string, []string) (int, bool)       = kmp.First[string]
	_ func(text, p []kinds) (place int, ok bool) = kmp.First[kinds]
)

// kinds: a search is generic in its kind, so a thing may be anything that can be compared.
type kinds struct {
	n int
	s string
	l [2]byte
}

func is[T comparable](t *testing.T, what string, got, want T) {
	t.Helper()
	if got != want {
		t.Errorf("%s: %v, wanted %v", what, got, want)
	}
}

func same(t *testing.T, what string, got []int, want ...int) {
	t.Helper()
	if !slices.Equal(got, want) {
		t.Errorf("%s: %v, wanted %v", what, got, want)
	}
}

// numbers, texts, structs: the bytes of a text as things of other kinds, so that each case is looked at in each of them.
func numbers(s string) []int {
	l := make([]int, len(s))
	for i := range l {
		l[i] = (int(s[i]) - 'b') * (math.MaxInt / 64)
	}
	return l
}

func texts(s string) []string {
	l := make([]string, len(s))
	for i := range l {
		l[i] = strings.Repeat("-", 20) + s[i:i+1]
	}
	return l
}

func structs(s string) []kinds {
	l := make([]kinds, len(s))
	for i := range l {
		l[i] = kinds{n: 1, s: "x", l: [2]byte{0, s[i]}}
	}
	return l
}

// The document's words, taken as they stand: what is held against the package.

// stands: whether a pattern stands at a place of a text.
func stands[T comparable](text, p []T, place int) bool {
	return place >= 0 && place+len(p) <= len(text) && slices.Equal(text[place:place+len(p)], p)
}

func wantPlaces[T comparable](text, p []T) []int {
	var l []int
	for i := range len(text) + 1 {
		if stands(text, p, i) {
			l = append(l, i)
		}
	}
	return l
}

// ends: how many things the longest beginning of p has that is no longer than most, and with which the text ends.
func ends[T comparable](text, p []T, most int) int {
	for n := min(most, len(p), len(text)); n > 0; n-- {
		if stands(text, p[:n], len(text)-n) {
			return n
		}
	}
	return 0
}

func wantBorders[T comparable](l []T) []int {
	b := make([]int, len(l))
	for i := range l {
		b[i] = ends(l[:i+1], l, i)
	}
	return b
}

// P8.1: Borders.

// holdsBorders: Borders, of a row of things, in all kinds.
func holdsBorders(t *testing.T, s string, want ...int) {
	t.Helper()
	same(t, "Borders of the bytes "+s, kmp.Borders([]byte(s)...), want...)
	same(t, "Borders of the runes "+s, kmp.Borders([]rune(s)...), want...)
	same(t, "Borders of the numbers "+s, kmp.Borders(numbers(s)...), want...)
	same(t, "Borders of the texts "+s, kmp.Borders(texts(s)...), want...)
	same(t, "Borders of the structs "+s, kmp.Borders(structs(s)...), want...)
}

func TestBordersOfFew(t *testing.T) {
	is(t, "no numbers", len(kmp.Borders[int]()), 0)
	is(t, "a nil list", len(kmp.Borders[byte](nil...)), 0)
	is(t, "an empty list", len(kmp.Borders([]string{}...)), 0)
	same(t, "0", kmp.Borders(0), 0)
	same(t, "an empty text", kmp.Borders(""), 0)
	same(t, "two texts without bytes", kmp.Borders("", ""), 0, 1)
	same(t, "the ends of int", kmp.Borders(math.MinInt, math.MaxInt, math.MinInt), 0, 0, 1)
	holdsBorders(t, "")
	holdsBorders(t, "a", 0)
	holdsBorders(t, "aa", 0, 1)
	holdsBorders(t, "ab", 0, 0)
}

func TestBorders(t *testing.T) {
	for _, c := range []struct {
		s    string
		want []int
	}{
		{"ababac", []int{0, 0, 1, 2, 3, 0}}, // the chapter's example
		{"aaaaaa", []int{0, 1, 2, 3, 4, 5}}, // all the same: a border is but one shorter
		{"abcdef", []int{0, 0, 0, 0, 0, 0}}, // none is another
		{"abcabc", []int{0, 0, 0, 1, 2, 3}},
		{"abcab", []int{0, 0, 0, 1, 2}},
		{"ababa", []int{0, 0, 1, 2, 3}},                 // aba overlaps itself
		{"abaabaaba", []int{0, 0, 1, 1, 2, 3, 4, 5, 6}}, // abaaba does, too
		{"aab", []int{0, 1, 0}},
		{"aaab", []int{0, 1, 2, 0}},
		{"abb", []int{0, 0, 0}},
		{"aabaaa", []int{0, 1, 0, 1, 2, 2}},             // aab is given up for aa
		{"aabaabaaa", []int{0, 1, 0, 1, 2, 3, 4, 5, 2}}, // aabaaa, and then aaa, for aa
		{"abacabad", []int{0, 0, 1, 0, 1, 2, 3, 0}},     // aba, a and nothing are given up
		{"abacabab", []int{0, 0, 1, 0, 1, 2, 3, 2}},     // aba is given up for a, and that goes on
		{"abacabadabacabac", []int{0, 0, 1, 0, 1, 2, 3, 0, 1, 2, 3, 4, 5, 6, 7, 4}},
		{"aaaabaaaaa", []int{0, 1, 2, 3, 0, 1, 2, 3, 4, 4}},
	} {
		holdsBorders(t, c.s, c.want...)
	}
}

// P8.3: All and First.

func collected[T comparable](text, p []T) []int {
	return slices.Collect(kmp.All(text, p))
}

// finds: All and First, of things of one kind.
func finds[T comparable](t *testing.T, what string, text, p []T, want []int) {
	t.Helper()
	same(t, "All of "+what, collected(text, p), want...)
	place, ok := kmp.First(text, p)
	is(t, "First of "+what+", whether", ok, len(want) > 0)
	if len(want) > 0 {
		is(t, "First of "+what, place, want[0])
	} else {
		is(t, "First where there is none, "+what, place, 0)
	}
}

// holdsPlaces: of things of all kinds.
func holdsPlaces(t *testing.T, text, p string, want ...int) {
	t.Helper()
	what := p + " in " + text + ", as "
	finds(t, what+"bytes", []byte(text), []byte(p), want)
	finds(t, what+"runes", []rune(text), []rune(p), want)
	finds(t, what+"numbers", numbers(text), numbers(p), want)
	finds(t, what+"texts", texts(text), texts(p), want)
	finds(t, what+"structs", structs(text), structs(p), want)
}

func TestPlaces(t *testing.T) {
	for _, c := range []struct {
		text, p string
		want    []int
	}{
		{"ababa", "aba", []int{0, 2}},          // the chapter's example: they overlap
		{"", "", []int{0}},                     // no things in no things
		{"a", "", []int{0, 1}},                 // no things stand everywhere
		{"abcd", "", []int{0, 1, 2, 3, 4}},     // at the text's length, too
		{"", "a", nil},                         // longer than the text
		{"", "ab", nil},                        //
		{"a", "aa", nil},                       //
		{"aaaa", "aaaaa", nil},                 //
		{"aba", "abab", nil},                   //
		{"a", "a", []int{0}},                   // as long as the text
		{"abcab", "abcab", []int{0}},           //
		{"abcab", "abcac", nil},                //
		{"aabab", "babab", nil},                //
		{"b", "a", nil},                        // of one thing
		{"abcba", "a", []int{0, 4}},            //
		{"abcba", "c", []int{2}},               //
		{"aaa", "a", []int{0, 1, 2}},           //
		{"abcabd", "abc", []int{0}},            // at the beginning
		{"abcabd", "abd", []int{3}},            // at the end
		{"abcabd", "cab", []int{2}},            // within
		{"abcabd", "bad", nil},                 // nowhere
		{"abcabd", "abe", nil},                 // nowhere, though it begins twice
		{"ababab", "ab", []int{0, 2, 4}},       // beside one another
		{"aaaaa", "aa", []int{0, 1, 2, 3}},     // overlapping, by all but one
		{"abaabaaba", "abaaba", []int{0, 3}},   //
		{"aabaaab", "aaab", []int{3}},          // a beginning is given up for a shorter one
		{"abacabacabad", "abacabad", []int{4}}, //
		{"abacababacabad", "abacabad", []int{6}},
		{"aaaaaabaaab", "aaab", []int{3, 7}},
	} {
		holdsPlaces(t, c.text, c.p, c.want...)
	}
}

func TestNilAndEmptyListsAreTheSame(t *testing.T) {
	for _, none := range [][]int{nil, {}} {
		for _, text := range [][]int{nil, {}} {
			finds(t, "nothing in nothing", text, none, []int{0})
			finds(t, "one in nothing", text, []int{1}, nil)
		}
		finds(t, "nothing in two", []int{4, 4}, none, []int{0, 1, 2})
	}
}

func TestAllMayBeLeft(t *testing.T) {
	all := kmp.All([]byte("aaaaa"), []byte("aa"))
	for n := range 5 {
		var seen []int
		for place := range all {
			seen = append(seen, place)
			if place == n {
				break
			}
		}
		same(t, "All till "+strconv.Itoa(n), seen, []int{0, 1, 2, 3}[:min(n+1, 4)]...)
	}
	same(t, "All from the first one on", slices.Collect(all), 0, 1, 2, 3)
	// Of no things, too, of which the first place is told ahead of the first thing.
	none := kmp.All([]byte("ab"), nil)
	for n := range 3 {
		left := 0
		for place := range none {
			is(t, "a place of no things", place, left)
			if left++; place == n {
				break
			}
		}
		is(t, "how many are told", left, n+1)
	}
	same(t, "All of no things", slices.Collect(none), 0, 1, 2)
}

// The same function, ranged over within a range over it: neither one disturbs the other.
func TestAllWithinAll(t *testing.T) {
	all := kmp.All([]byte("ababababa"), []byte("aba"))
	var outer, inner []int
	for place := range all {
		outer = append(outer, place)
		for other := range all {
			if other > place {
				break
			}
			inner = append(inner, other)
		}
	}
	same(t, "the outer one", outer, 0, 2, 4, 6)
	same(t, "the inner ones", inner, 0, 0, 2, 0, 2, 4, 0, 2, 4, 6)
}

// Rule 4: All keeps nothing of what was handed in, neither when it is called, nor while it is gone through.
func TestAllIsOfTheListsAsTheyWere(t *testing.T) {
	text, p := []byte("ababa"), []byte("aba")
	all := kmp.All(text, p)
	copy(text, "xxxxx")
	same(t, "behind a change of the text", slices.Collect(all), 0, 2)
	copy(p, "xxx")
	same(t, "behind a change of both", slices.Collect(all), 0, 2)
	copy(text, "ababa")
	same(t, "behind a change of the pattern", slices.Collect(all), 0, 2)
	copy(p, "aba")
	all = kmp.All(text, p)
	var seen []int
	for place := range all {
		seen = append(seen, place)
		copy(text, "-----")
		copy(p, "---")
	}
	same(t, "changed while gone through", seen, 0, 2)
	same(t, "and behind that", slices.Collect(all), 0, 2)
	same(t, "anew", collected(text, p), 0, 1, 2)
}

func TestWhatIsHandedInIsNotChanged(t *testing.T) {
	whole := []byte("aabaabaa--")
	text, p := whole[1:8], whole[1:4] // the pattern lies in the text, and more lies behind both
	same(t, "All", collected(text, p), 0, 3)
	place, ok := kmp.First(text, p)
	is(t, "First", place, 0)
	is(t, "First, whether", ok, true)
	same(t, "Borders", kmp.Borders(text...), 0, 0, 1, 1, 2, 3, 4)
	s := kmp.New(p...)
	s.Feed('a')
	s.Reset()
	is(t, "what was handed in, and lies around it", string(whole), "aabaabaa--")
}

// P8.2: New, Feed, At, Reset.

// feeds: what Feed tells of each thing, and At behind it.
func feeds[T comparable](t *testing.T, s *kmp.Search[T], text []T, hits []bool, at []int) {
	t.Helper()
	for i, x := range text {
		if hit := s.Feed(x); hit != hits[i] || s.At() != at[i] || s.At() != at[i] {
			t.Errorf("the thing %d of %v: %v and %d, wanted %v and %d", i, text, hit, s.At(), hits[i], at[i])
		}
	}
}

// holdsFeed: a new search is fed a text; at tells what At is behind each thing, a star in hits where Feed tells true.
func holdsFeed(t *testing.T, p, text, hits string, at ...int) {
	t.Helper()
	told := make([]bool, len(hits))
	for i := range hits {
		told[i] = hits[i] == '*'
	}
	b, n, w, k := kmp.New([]byte(p)...), kmp.New(numbers(p)...), kmp.New(texts(p)...), kmp.New(structs(p)...)
	is(t, "At of one that saw nothing", b.At()+n.At()+w.At()+k.At(), 0)
	feeds(t, b, []byte(text), told, at)
	feeds(t, n, numbers(text), told, at)
	feeds(t, w, texts(text), told, at)
	feeds(t, k, structs(text), told, at)
}

func TestFeed(t *testing.T) {
	holdsFeed(t, "aba", "ababa", "  * *", 1, 2, 3, 2, 3)
	holdsFeed(t, "a", "aabca", "**  *", 1, 1, 0, 0, 1)
	holdsFeed(t, "aa", "aaaba", " **  ", 1, 2, 2, 0, 1)
	holdsFeed(t, "ab", "ababb", " * * ", 1, 2, 1, 2, 0)
	holdsFeed(t, "abc", "ababcc", "    * ", 1, 2, 1, 2, 3, 0)
	holdsFeed(t, "abac", "abaaba", "      ", 1, 2, 3, 1, 2, 3)
	holdsFeed(t, "abc", "bcbcb", "     ", 0, 0, 0, 0, 0)
}

func TestAThingThatThePatternHasNot(t *testing.T) {
	holdsFeed(t, "abab", "abaxababxab", "       *   ", 1, 2, 3, 0, 1, 2, 3, 4, 0, 1, 2)
	holdsFeed(t, "aaa", "xaaxaaax", "      * ", 0, 1, 2, 0, 1, 2, 3, 0)
	holdsFeed(t, "a", "xyxa", "   *", 0, 0, 0, 1)
}

// Behind the whole pattern At is the longest beginning that still stands at the end.
func TestBehindTheWholePattern(t *testing.T) {
	const p = "abacabad"
	holdsFeed(t, p, p+"a", "       * ", 1, 2, 3, 4, 5, 6, 7, 8, 1)
	holdsFeed(t, "abaaba", "abaabaaba", "     *  *", 1, 2, 3, 4, 5, 6, 4, 5, 6)
	holdsFeed(t, "abaaba", "abaabab", "     * ", 1, 2, 3, 4, 5, 6, 2)
	holdsFeed(t, "aaaa", "aaaaaab", "   *** ", 1, 2, 3, 4, 4, 4, 0)
	holdsFeed(t, "aabaa", "aabaabaa", "    *  *", 1, 2, 3, 4, 5, 3, 4, 5)
	holdsFeed(t, "aabaa", "aabaaa", "    * ", 1, 2, 3, 4, 5, 2)
	holdsFeed(t, "abcd", "abcda", "   * ", 1, 2, 3, 4, 1)
}

func TestSearchForNoThings(t *testing.T) {
	holdsFeed(t, "", "", "")
	holdsFeed(t, "", "abca", "****", 0, 0, 0, 0)
	for _, s := range []*kmp.Search[int]{kmp.New[int](), kmp.New[int](nil...), kmp.New([]int{}...)} {
		is(t, "At ahead of a thing", s.At(), 0)
		is(t, "Feed", s.Feed(3), true)
		is(t, "At behind a thing", s.At(), 0)
		s.Reset()
		is(t, "At behind Reset", s.At(), 0)
		is(t, "Feed of the least one", s.Feed(math.MinInt), true)
		is(t, "Feed of the greatest one", s.Feed(math.MaxInt), true)
		is(t, "At", s.At(), 0)
	}
}

func TestReset(t *testing.T) {
	const p = "abaab"
	for ahead := range len(p) + 4 {
		s := kmp.New([]byte(p)...)
		for i := range ahead { // none, some within the pattern, the whole of it, and behind it
			s.Feed((p + "aab")[i])
		}
		for range ahead%2 + 1 { // once or twice: it makes no difference
			s.Reset()
		}
		is(t, "At behind Reset", s.At(), 0)
		feeds(t, s, []byte("aabaab"), []bool{false, false, false, false, false, true}, []int{1, 1, 2, 3, 4, 5})
	}
}

// What was seen ahead of a Reset counts for nothing, also where it would make the pattern whole.
func TestResetForgets(t *testing.T) {
	s := kmp.New(1, 2, 1)
	feeds(t, s, []int{1, 2}, []bool{false, false}, []int{1, 2})
	s.Reset()
	feeds(t, s, []int{1, 2, 1}, []bool{false, false, true}, []int{1, 2, 3})
	s.Reset()
	feeds(t, s, []int{2, 1}, []bool{false, false}, []int{0, 1})
}

func TestNilSearch(t *testing.T) {
	var s *kmp.Search[byte]
	for range 2 {
		is(t, "Feed", s.Feed(0), false)
		is(t, "Feed", s.Feed(255), false)
		is(t, "At", s.At(), 0)
		s.Reset()
	}
	var w *kmp.Search[string]
	w.Reset()
	is(t, "Feed", w.Feed(""), false)
	is(t, "At", w.At(), 0)
}

// P2, and rule 4.

func TestSearchesAreApart(t *testing.T) {
	p := []byte("aba")
	a, b := kmp.New(p...), kmp.New(p...)
	a.Feed('a')
	a.Feed('b')
	is(t, "At of the one", a.At(), 2)
	is(t, "At of the other", b.At(), 0)
	is(t, "Feed of the other", b.Feed('a'), false)
	is(t, "Feed of the one", a.Feed('a'), true)
	b.Reset()
	is(t, "At of the one", a.At(), 3)
	is(t, "At of the other", b.At(), 0)
}

func TestNewKeepsNothingOfItsList(t *testing.T) {
	whole := []byte("-ababc-")
	p := whole[1:6]
	s := kmp.New(p...)
	copy(whole, "xxxxxxx")
	text, hits, at := []byte("ababababc"), make([]bool, 9), []int{1, 2, 3, 4, 3, 4, 3, 4, 5}
	hits[8] = true
	feeds(t, s, text[:4], hits, at)
	copy(whole, "yyyyyyy")
	feeds(t, s, text[4:], hits[4:], at[4:])
	is(t, "what was handed in", string(whole), "yyyyyyy")
	s.Reset()
	is(t, "Feed of what it was changed to", s.Feed('y'), false)
	is(t, "At", s.At(), 0)
}

func TestBordersAreNewMemory(t *testing.T) {
	l := []int{7, 8, 7, 8, 7}
	a, b := kmp.Borders(l...), kmp.Borders(l...)
	copy(l, []int{1, 1, 1, 1, 1})
	same(t, "behind a change of the list", a, 0, 0, 1, 2, 3)
	a = a[:cap(a)]
	for i := range a {
		a[i] = -5
	}
	same(t, "the list", l, 1, 1, 1, 1, 1)
	same(t, "another answer", b, 0, 0, 1, 2, 3)
	same(t, "a later answer", kmp.Borders(l...), 0, 1, 2, 3, 4)
}

// Whoever spoils an answer spoils no search of the same pattern, made ahead of it or behind it.
func TestBordersAreNoSearchsOwn(t *testing.T) {
	p := []byte("abaab")
	ahead := kmp.New(p...)
	b := kmp.Borders(p...)
	for i := range b {
		b[i] = 4
	}
	for _, s := range []*kmp.Search[byte]{ahead, kmp.New(p...)} {
		feeds(t, s, []byte("abaabaab"), []bool{false, false, false, false, true, false, false, true}, []int{1, 2, 3, 4, 5, 3, 4, 5})
	}
}

// P8.4: what is told hangs on the things alone.

// fed: the places that a search tells which is fed a text thing by thing; the place 0 of no things is ahead of all that Feed can tell.
func fed[T comparable](text, p []T) []int {
	var l []int
	if len(p) == 0 {
		l = append(l, 0)
	}
	s := kmp.New(p...)
	for i, x := range text {
		if s.Feed(x) {
			l = append(l, i+1-len(p))
		}
	}
	return l
}

// agrees: whether all calls tell of a text and a pattern what the document's words ask.
func agrees[T comparable](text, p []T) bool {
	want := wantPlaces(text, p)
	place, ok := kmp.First(text, p)
	if ok != (len(want) > 0) || ok && place != want[0] || !ok && place != 0 {
		return false
	}
	if !slices.Equal(collected(text, p), want) || !slices.Equal(fed(text, p), want) {
		return false
	}
	s := kmp.New(p...)
	for i, x := range text {
		if s.Feed(x) != stands(text[:i+1], p, i+1-len(p)) || s.At() != ends(text[:i+1], p, len(p)) {
			return false
		}
	}
	return true
}

// rows: all rows of at most so many things, each one of so many kinds.
func rows(kindsOf, most int) [][]byte {
	all := [][]byte{{}}
	for i := 0; i < len(all); i++ {
		if len(all[i]) == most {
			break
		}
		for k := range kindsOf {
			all = append(all, append(slices.Clone(all[i]), 'a'+byte(k)))
		}
	}
	return all
}

func TestAllShortRows(t *testing.T) {
	for _, c := range []struct{ kindsOf, text, p int }{{1, 9, 9}, {2, 9, 6}, {3, 6, 4}, {4, 4, 4}} {
		patterns := rows(c.kindsOf, c.p)
		for _, text := range rows(c.kindsOf, c.text) {
			if got, want := kmp.Borders(text...), wantBorders(text); !slices.Equal(got, want) {
				t.Fatalf("Borders of %s: %v, wanted %v", text, got, want)
			}
			for _, p := range patterns {
				if !agrees(text, p) {
					t.Fatalf("%q in %q: All %v, fed %v, wanted %v", p, text, collected(text, p), fed(text, p), wantPlaces(text, p))
				}
			}
		}
	}
}

// chance: numbers that are the same in every run.
type chance uint32

func (c *chance) below(n int) int {
	*c = *c*1664525 + 1013904223
	return int(*c>>8) % n
}

// row: things of few kinds, some of it copied from what stands ahead, so that there are long borders.
func (c *chance) row(n, kindsOf int) []byte {
	var l []byte
	for len(l) < n {
		if len(l) > 0 && c.below(3) == 0 {
			from := c.below(len(l))
			l = append(l, l[from:from+1+c.below(len(l)-from)]...)
		} else {
			l = append(l, 'a'+byte(c.below(kindsOf)))
		}
	}
	return l[:n]
}

func TestLongerRows(t *testing.T) {
	for seed := range 600 {
		c := chance(seed)
		text := c.row(c.below(120), 1+seed%4)
		if got, want := kmp.Borders(text...), wantBorders(text); !slices.Equal(got, want) {
			t.Fatalf("Borders of %s: %v, wanted %v", text, got, want)
		}
		from := c.below(len(text) + 1)
		p := text[from : from+c.below(len(text)-from+1)]
		if !agrees(text, p) || !agrees(numbers(string(text)), numbers(string(p))) || !agrees(texts(string(text)), texts(string(p))) {
			t.Fatalf("%q in %q: All %v, fed %v, wanted %v", p, text, collected(text, p), fed(text, p), wantPlaces(text, p))
		}
		other := c.row(c.below(12), 1+seed%4) // a pattern that mostly stands nowhere
		if !agrees(text, other) {
			t.Fatalf("%q in %q: All %v, fed %v, wanted %v", other, text, collected(text, other), fed(text, other), wantPlaces(text, other))
		}
	}
}

// In whatever pieces things come, each in memory of its own that is spoilt afterwards, and whoever asks At meanwhile.
func TestPiecesMakeNoDifference(t *testing.T) {
	for seed := range 300 {
		c := chance(seed)
		kindsOf := 1 + seed%3
		text, p := c.row(80, kindsOf), c.row(c.below(7), kindsOf)
		want := wantPlaces(text, p)
		if len(p) == 0 {
			want = want[1:]
		}
		s, disturber := kmp.New(p...), kmp.New(p...)
		var got []int
		for from := 0; from < len(text); {
			piece := slices.Clone(text[from:min(len(text), from+c.below(9))])
			for i := range piece {
				if s.Feed(piece[i]) {
					got = append(got, from+i+1-len(p))
				}
				piece[i] = '-'
			}
			from += len(piece)
			is(t, "At", s.At(), ends(text[:from], p, len(p)))
			disturber.Feed('a')
			_ = collected(text, p)
		}
		same(t, fmt.Sprintf("%q in %q", p, text), got, want...)
	}
}

// inTime: it ends, and in less time than it would take to hold each thing against all things of a long pattern.
func inTime(t *testing.T, what string, do func()) {
	t.Helper()
	done := make(chan bool)
	go func() {
		defer close(done)
		do()
	}()
	select {
	case <-done:
	case <-time.After(time.Minute):
		t.Fatal(what, "holds things against too many others")
	}
}

const (
	longPattern = 1 << 18
	longText    = 1 << 22
)

func repeated(s string, n int) []byte {
	return []byte(strings.Repeat(s, n/len(s)))
}

// Many times the same thing, and then another one.
func TestLongRowsOfTheSame(t *testing.T) {
	p := append(repeated("a", longPattern-1), 'b')
	inTime(t, "Borders", func() {
		b := kmp.Borders(p...)
		is(t, "the last but one", b[longPattern-2], longPattern-2)
		is(t, "the last one", b[longPattern-1], 0)
	})
	inTime(t, "All", func() {
		text := append(repeated("a", longText), 'b')
		same(t, "All", collected(text, p), longText-longPattern+1)
		place, ok := kmp.First(text, p)
		is(t, "First", place, longText-longPattern+1)
		is(t, "First, whether", ok, true)
	})
	inTime(t, "All where there is none", func() {
		text := repeated(strings.Repeat("a", longPattern-1)+"c", longText)
		same(t, "All", collected(text, p))
		_, ok := kmp.First(text, p)
		is(t, "First, whether", ok, false)
	})
	inTime(t, "a search", func() {
		s := kmp.New(p...)
		for range longText {
			s.Feed('a')
		}
		is(t, "At", s.At(), longPattern-1)
		is(t, "Feed", s.Feed('b'), true)
		for i := range longText { // the longest beginning, given up again and again
			if s.Feed('c') || s.At() != 0 {
				t.Error("c is no part of the pattern")
				return
			}
			if i%longPattern == 0 {
				for range longPattern - 1 {
					s.Feed('a')
				}
			}
		}
	})
}

// libraryPlaces: where the library finds a pattern, which is told quickly for long rows, too.
func libraryPlaces(text, p []byte) []int {
	var l []int
	for from := 0; ; {
		i := bytes.Index(text[from:], p)
		if i < 0 {
			return l
		}
		l = append(l, from+i)
		from += i + 1
	}
}

// Rows of which each border must be given up for the next shorter one, and such that overlap themselves nearly whole.
func TestLongRowsWithManyBorders(t *testing.T) {
	words := [2][]byte{[]byte("b"), []byte("a")} // each one is the two ahead of it
	for len(words[1]) < longPattern {
		words[0], words[1] = words[1], slices.Concat(words[1], words[0])
	}
	p := words[1]
	inTime(t, "a row of rows", func() {
		b := kmp.Borders(p...)
		is(t, "the last one", b[len(p)-1], len(p)-len(words[0])) // a word's period is the word ahead of it
		same(t, "the first ones", b[:400], wantBorders(p[:400])...)
		text := append(slices.Repeat(p, 8), 'c')
		same(t, "All", collected(text, p), libraryPlaces(text, p)...)
	})
	inTime(t, "all the same", func() {
		p, text := repeated("a", longPattern), repeated("a", longText)
		n := 0
		for place := range kmp.All(text, p) {
			if place != n {
				t.Error("the place", place, "where", n, "is asked")
				return
			}
			n++
		}
		is(t, "how many places", n, longText-longPattern+1)
	})
	inTime(t, "two by two", func() {
		p := append(repeated("ab", longPattern), 'c')
		text := append(repeated("ab", longText), 'c', 'a')
		same(t, "All", collected(text, p), longText-longPattern)
	})
}

// First looks at nothing behind the first place: a nearly endless text costs it no more than a short one.
func TestFirstIsTheFirst(t *testing.T) {
	text := repeated("ab", longText)
	inTime(t, "First", func() {
		for range 2000 {
			place, ok := kmp.First(text, []byte("ba"))
			is(t, "First", place, 1)
			is(t, "whether", ok, true)
			place, ok = kmp.First(text, []byte("aba"))
			is(t, "First at 0", place, 0)
			is(t, "whether", ok, true)
			place, ok = kmp.First(text, nil)
			is(t, "First of no things", place, 0)
			is(t, "whether", ok, true)
		}
	})
}

// P1: no call panics, whatever the kind.

func TestOtherKinds(t *testing.T) {
	x, y := new(int), new(int) // two pointers, to the same number
	finds(t, "pointers", []*int{x, y, x, nil, x}, []*int{x, nil}, []int{2})
	finds(t, "bools", []bool{true, false, true}, []bool{true}, []int{0, 2})
	finds(t, "things without a size", make([]struct{}, 3), make([]struct{}, 2), []int{0, 1})
	finds(t, "arrays", [][2]int{{1, 2}, {2, 1}, {1, 2}}, [][2]int{{2, 1}, {1, 2}}, []int{1})
	c, d := make(chan int), make(chan int)
	finds(t, "channels", []chan int{c, d, nil, d}, []chan int{d, nil}, []int{1})
	e, f := errors.New("e"), errors.New("e") // two errors, of the same text
	finds(t, "errors", []error{e, f, nil, f, e}, []error{f, e}, []int{3})
	finds(t, "things of any kind", []any{1, "1", nil, int8(1), 1, nil}, []any{1, nil}, []int{4})
	same(t, "Borders of things of any kind", kmp.Borders[any](1, "1", 1, nil, 1, "1", int8(1)), 0, 0, 1, 0, 1, 2, 0)
}

// What is no number is not the same as itself; 0 with a sign is the same as 0.
func TestFloats(t *testing.T) {
	none, zero := math.NaN(), math.Copysign(0, -1)
	finds(t, "no number", []float64{none, 1, none}, []float64{none}, nil)
	finds(t, "beside no number", []float64{none, 1, none, 1, 2}, []float64{1, 2}, []int{3})
	finds(t, "zeros", []float64{0, zero, 1}, []float64{zero, 0}, []int{0})
	same(t, "Borders of no numbers", kmp.Borders(none, none, none), 0, 0, 0)
	same(t, "Borders beside no number", kmp.Borders(1, none, 1, none, 1), 0, 0, 1, 0, 1)
	s := kmp.New(1, none)
	feeds(t, s, []float64{1, none, 1, 1}, []bool{false, false, false, false}, []int{1, 0, 1, 1})
	for _, p := range [][]float64{{none}, {1, none}, {none, 1}, {1}, {1, 1}, {1, none, 1}} {
		for _, text := range [][]float64{{none}, {1, none, 1, none, 1}, {none, none}, {1, 1, none}} {
			if !agrees(text, p) {
				t.Error(p, "in", text)
			}
		}
	}
}

// Things of an interface that can't be compared are the same as nothing, themselves among it.
func TestThingsThatCannotBeCompared(t *testing.T) {
	list, table, call := any([]int{1}), any(map[int]int{}), any(func() {})
	deep := any([1]any{struct{ x any }{[]int{1}}})
	for _, x := range []any{list, table, call, deep} {
		finds(t, "such a thing", []any{x, 1, x}, []any{x}, nil)
		finds(t, "beside such things", []any{x, 1, 2, x, 1}, []any{1, 2}, []int{1})
		finds(t, "none in such things", []any{x, x}, nil, []int{0, 1, 2})
		same(t, "Borders", kmp.Borders(x, x, 1, x, 1), 0, 0, 0, 0, 0)
		same(t, "Borders beside such a thing", kmp.Borders(1, x, 1, x, 1), 0, 0, 1, 0, 1)
		s := kmp.New(1, 2, x, 1)
		feeds(t, s, []any{1, 2, x, 1, 2, x, x}, make([]bool, 7), []int{1, 2, 0, 1, 2, 0, 0})
		s.Reset()
		is(t, "Feed", s.Feed(x), false)
		is(t, "Feed of a search for no things", kmp.New[any]().Feed(x), true)
	}
}
