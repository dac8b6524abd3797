package match_test

import (
	"fmt"
	"math"
	"runtime"
	"slices"
	"strings"
	"testing"
	"time"

	"cuecard/api"
	"cuecard/glob"
	"cuecard/kmp"
	"cuecard/match"
)

// The signatures are part of what is asked: a change of one must not build.
var (
	_ func(int, ...api.Branch) (*match.Matcher, api.Errno)          = match.New
	_ func(*match.Matcher) (match.Hit, bool)                        = (*match.Matcher).Start
	_ func(*match.Matcher, byte) (match.Hit, bool)                  = (*match.Matcher).Feed
	_ func(*match.Matcher)                                          = (*match.Matcher).Reset
	_ func(int, []byte, ...api.Branch) (match.Hit, bool, api.Errno) = match.First
	_                                                               = match.Hit(struct{ Branch, From, To int }{})
)

// The limits and the errors, by their numbers.
const (
	maxMatch    = 1 << 20
	maxBranches = 64
	maxGlob     = 1024
	wrongKind   = 2
	outOfRange  = 3
	noForm      = 4
	tooLong     = 6
	tooMany     = 10
)

// wrong: numbers that no matcher may have.
var wrong = []int{math.MinInt, math.MinInt32, -maxMatch, -1, 0, maxMatch + 1, 2 * maxMatch, math.MaxInt32, 1<<32 + 1, math.MaxInt}

func exact(p string) api.Branch { return api.Branch{Kind: 0, Pattern: p} }
func like(p string) api.Branch  { return api.Branch{Kind: 1, Pattern: p} }

var timeout, eof = api.Branch{Kind: 2}, api.Branch{Kind: 3}

// told: what Start and Feed answer.
type told struct {
	match.Hit
	ok bool
}

var none = told{}

func hit(branch, from, to int) told {
	return told{match.Hit{Branch: branch, From: from, To: to}, true}
}

// shown: branches, or the beginning of them, where they are many or long.
func shown(l []api.Branch) string {
	s := fmt.Sprint(l)
	return s[:min(len(s), 200)]
}

func made(t *testing.T, most int, l ...api.Branch) *match.Matcher {
	t.Helper()
	m, e := match.New(most, l...)
	if m == nil || e != 0 {
		t.Fatalf("New(%d, %s): %v, %v", most, shown(l), m, e)
	}
	return m
}

func is[T comparable](t *testing.T, what string, got, want T) {
	t.Helper()
	if got != want {
		t.Errorf("%s: %v, wanted %v", what, got, want)
	}
}

func start(m *match.Matcher) told {
	h, ok := m.Start()
	return told{h, ok}
}

func feed(m *match.Matcher, c byte) told {
	h, ok := m.Feed(c)
	return told{h, ok}
}

// feeds: what is told behind each of some bytes.
func feeds(t *testing.T, m *match.Matcher, b string, want ...told) {
	t.Helper()
	for i := range len(b) {
		if got := feed(m, b[i]); got != want[i] {
			t.Errorf("Feed(%q), behind %.99q: %v, wanted %v", b[i], b[:i], got, want[i])
		}
	}
}

// first: what First tells, where nothing is wrong.
func first(t *testing.T, most int, b string, want told, l ...api.Branch) {
	t.Helper()
	h, ok, e := match.First(most, []byte(b), l...)
	if got := (told{h, ok}); got != want || e != 0 {
		t.Errorf("First(%d, %.99q, %s): %v, %v, wanted %v", most, b, shown(l), got, e, want)
	}
}

// refused: New and First tell an error, and no more, whatever the bytes.
func refused(t *testing.T, want api.Errno, most int, l ...api.Branch) {
	t.Helper()
	if m, e := match.New(most, l...); m != nil || e != want {
		t.Errorf("New(%d, %s): %v, %v, wanted %v", most, shown(l), m, e, want)
	}
	for _, b := range []string{"", "a", "aaaaaaaaa"} {
		if h, ok, e := match.First(most, []byte(b), l...); h != (match.Hit{}) || ok || e != want {
			t.Errorf("First(%d, %q, %s): %v, %v, %v, wanted %v", most, b, shown(l), h, ok, e, want)
		}
	}
}

// The document's words, taken as they stand: what is held against the package.

// asAsked: the hit behind all of some bytes.
func asAsked(most int, came string, l []api.Branch) told {
	e := len(came)
	for i, b := range l {
		for f := 0; f <= e; f++ {
			if e-f <= most && hitBy(b, came[f:]) {
				return hit(i, f, e)
			}
		}
	}
	return none
}

func hitBy(b api.Branch, piece string) bool {
	switch b.Kind {
	case 0:
		return piece == b.Pattern
	case 1:
		ok, _ := glob.Match(b.Pattern, piece)
		return ok
	}
	return false
}

// asAskedFirst: the hit behind the least number of bytes for which there is one.
func asAskedFirst(most int, b string, l []api.Branch) told {
	for n := 0; n <= len(b); n++ {
		if h := asAsked(most, b[:n], l); h.ok {
			return h
		}
	}
	return none
}

// agrees: all calls do with some bytes what the document asks; Start and Reset change nothing, or all.
func agrees(t *testing.T, most int, b string, l ...api.Branch) {
	t.Helper()
	m := made(t, most, l...)
	begin := asAsked(most, "", l)
	for _, size := range []int{len(b), len(b) / 2, len(b)} {
		for i := range size {
			if got := start(m); got != begin {
				t.Fatalf("Start of %s, most %d, behind %q: %v, wanted %v", shown(l), most, b[:i], got, begin)
			}
			if got, want := feed(m, b[i]), asAsked(most, b[:i+1], l); got != want {
				t.Fatalf("Feed of %s, most %d, up to %q: %v, wanted %v", shown(l), most, b[:i+1], got, want)
			}
		}
		m.Reset()
	}
	first(t, most, b, asAskedFirst(most, b, l), l...)
}

// chance: numbers that look like chance's, and are the same in each run.
type chance uint64

func (c *chance) below(n int) int {
	*c = *c*6364136223846793005 + 1442695040888963407
	return int(uint64(*c>>33) % uint64(n))
}

// text: so many of some bytes.
func (c *chance) text(of string, n int) string {
	b := make([]byte, n)
	for i := range b {
		b[i] = of[c.below(len(of))]
	}
	return string(b)
}

// texts: all texts of so many bytes.
func texts(of string, n int) []string {
	l := []string{""}
	for range n {
		var longer []string
		for _, s := range l {
			for i := range len(of) {
				longer = append(longer, s+of[i:i+1])
			}
		}
		l = longer
	}
	return l
}

// inTime: it ends, and in less time than it would take to look at all of a great span at each byte that comes.
func inTime(t *testing.T, what string, do func()) {
	t.Helper()
	done := make(chan bool)
	go func() {
		defer close(done)
		do()
	}()
	select {
	case <-done:
	case <-time.After(time.Minute):
		t.Fatal(what, "takes too long")
	}
}

// P15.1: New.

func TestMostThatMayNotBe(t *testing.T) {
	bad := append(slices.Repeat([]api.Branch{exact("a")}, maxBranches), api.Branch{Kind: 9}, like("["))
	for _, most := range wrong {
		refused(t, outOfRange, most)
		refused(t, outOfRange, most, exact(""), like("*"))
		refused(t, outOfRange, most, bad...) // ahead of all others
	}
}

func TestMostThatMayBe(t *testing.T) {
	for _, most := range []int{1, 2, 3, 2000, maxMatch - 1, maxMatch} {
		m := made(t, most, exact("a"), like("*b"))
		is(t, "Start", start(m), none)
		feeds(t, m, "xab", none, hit(0, 1, 2), hit(1, max(0, 3-most), 3))
	}
}

func TestTooManyBranches(t *testing.T) {
	for _, n := range []int{maxBranches + 1, maxBranches + 2, 1000} {
		for _, b := range []api.Branch{exact("a"), like("*"), timeout, eof, {Kind: 4}, like("[")} { // ahead of what is wrong with one
			refused(t, tooMany, 9, slices.Repeat([]api.Branch{b}, n)...)
		}
	}
	l := append(slices.Repeat([]api.Branch{timeout}, maxBranches-1), exact("a"))
	feeds(t, made(t, 9, l...), "ba", none, hit(maxBranches-1, 1, 2))
	for _, n := range []int{1, 2, maxBranches - 1, maxBranches} {
		is(t, "Start", start(made(t, 9, slices.Repeat([]api.Branch{like("*")}, n)...)), hit(0, 0, 0))
	}
}

func TestKindsThatMayNotBe(t *testing.T) {
	for _, kind := range []int{math.MinInt, math.MinInt32, -2, -1, 4, 5, 255, 256, 1 << 32, math.MaxInt32, math.MaxInt} {
		for _, p := range []string{"", "a", "[", strings.Repeat("a", maxGlob+1)} {
			refused(t, wrongKind, 9, api.Branch{Kind: kind, Pattern: p})
			refused(t, wrongKind, 9, exact(""), like("*"), timeout, eof, api.Branch{Kind: kind, Pattern: p})
		}
	}
}

func TestPatternsThatAreNotRight(t *testing.T) {
	for _, p := range []string{"[", "a[", "[]", "[a", "\\", "a\\", "*[", "[a]\\"} {
		refused(t, noForm, 9, like(p))
		refused(t, noForm, 9, exact("a"), like("a"), timeout, eof, like(p), like("b"))
	}
	refused(t, tooLong, 9, like(strings.Repeat("a", maxGlob+1)))
	refused(t, tooLong, 9, like(strings.Repeat("[", maxGlob+1))) // as layer 13 has it
	refused(t, tooLong, maxMatch, exact("a"), like(strings.Repeat("a", 5*maxGlob)))
	made(t, 9, like(strings.Repeat("a", maxGlob)))
}

// What is wrong with the first one is told, whatever is wrong with one behind it.
func TestTheFirstBranchThatIsWrong(t *testing.T) {
	long, form, kind := like(strings.Repeat("[", maxGlob+1)), like("["), api.Branch{Kind: 4, Pattern: "["}
	for _, l := range [][]api.Branch{{long, form, kind}, {long, kind, form}, {timeout, long, kind}} {
		refused(t, tooLong, 9, l...)
	}
	for _, l := range [][]api.Branch{{form, long, kind}, {form, kind, long}, {eof, form, kind}} {
		refused(t, noForm, 9, l...)
	}
	for _, l := range [][]api.Branch{{kind, long, form}, {kind, form, long}, {exact(""), kind, long}} {
		refused(t, wrongKind, 9, l...)
	}
}

// A Pattern is a glob one's only where the Kind says so.
func TestOtherKindsPatternsAreNotChecked(t *testing.T) {
	long := strings.Repeat("[", 3*maxGlob)
	for _, p := range []string{"[", "\\", long} {
		m := made(t, maxMatch, api.Branch{Kind: 2, Pattern: p}, api.Branch{Kind: 3, Pattern: p}, exact(p))
		is(t, "Start", start(m), none)
		for range len(p) - 1 {
			is(t, "Feed", feed(m, p[0]), none)
		}
		is(t, "Feed of the last byte", feed(m, p[0]), hit(2, 0, len(p)))
	}
}

// P15.2: Start, Feed, Reset.

func TestExamples(t *testing.T) {
	feeds(t, made(t, 9, exact("b"), like("a*")), "xa", none, hit(1, 1, 2))
	feeds(t, made(t, 9, exact("ab"), exact("b")), "xab", none, none, hit(0, 1, 3))
	first(t, 9, "xab", hit(1, 1, 2), exact("b"), like("a*"))
	first(t, 9, "xab", hit(0, 1, 3), exact("ab"), exact("b"))
}

func TestWithoutBranches(t *testing.T) {
	m := made(t, 9)
	is(t, "Start", start(m), none)
	feeds(t, m, "abc", none, none, none)
	m.Reset()
	is(t, "Start behind Reset", start(m), none)
	first(t, 9, "", none)
	first(t, 9, "abc", none)
}

func TestTimeoutAndEOFAreNeverHit(t *testing.T) {
	for _, p := range []string{"", "a", "*", "?"} {
		to, end := api.Branch{Kind: 2, Pattern: p}, api.Branch{Kind: 3, Pattern: p}
		first(t, 9, "aaa", none, to, end)
		first(t, 9, "", none, end, to)
		first(t, 9, "aab", hit(2, 2, 3), to, end, exact("b"))
		agrees(t, 3, "aab", end, like("a?"), to)
	}
}

func TestBehindNoBytes(t *testing.T) {
	for _, p := range []string{"", "*", "**", strings.Repeat("*", maxGlob)} {
		for _, most := range []int{1, 2, maxMatch} {
			m := made(t, most, exact("a"), like(p), exact(""))
			is(t, "Start", start(m), hit(1, 0, 0))
			m.Feed('b')
			is(t, "Start behind a byte", start(m), hit(1, 0, 0))
			m.Reset()
			is(t, "Start behind Reset", start(m), hit(1, 0, 0))
		}
	}
	for _, p := range []string{"?", "a", "*a", "a*", "*?*", "[a-z]", "\\*"} {
		is(t, p, start(made(t, 9, like(p))), none)
		is(t, p, start(made(t, 9, like(p), exact(""))), hit(1, 0, 0))
		is(t, p, start(made(t, 9, exact(p))), none)
	}
	is(t, "exact", start(made(t, 1, exact(""), like("*"))), hit(0, 0, 0))
	is(t, "a byte 0", start(made(t, 1, exact("\x00"), like("\x00"))), none)
}

// Nothing stands from no bytes on, but nothing.
func TestEmptyPatterns(t *testing.T) {
	for _, b := range []api.Branch{exact(""), like("")} {
		m := made(t, 2, exact("b"), b)
		feeds(t, m, "abcc", hit(1, 1, 1), hit(0, 1, 2), hit(1, 3, 3), hit(1, 4, 4))
	}
}

// A branch that is not hit first sees all bytes, too, also those behind a hit.
func TestAllBranchesSeeAllBytes(t *testing.T) {
	m := made(t, 9, exact("ab"), like("?b"), exact("bc"), like("[b]c?"), like("*cd*e"))
	feeds(t, m, "abcde", none, hit(0, 0, 2), hit(2, 1, 3), hit(3, 1, 4), hit(4, 0, 5))
	feeds(t, made(t, 9, like("*"), exact("")), "aa", hit(0, 0, 1), hit(0, 0, 2))
}

func TestTheFirstBranchGoesAhead(t *testing.T) {
	l := []api.Branch{exact("b"), exact("ab"), like("?b"), like("*b"), like("[a]*b")}
	from := []int{2, 1, 1, 0, 1}
	for i := range l {
		for j := range l {
			is(t, "of two", start(made(t, 9, l[i], l[j])), none)
			feeds(t, made(t, 9, l[i], l[j]), "xab", none, none, hit(0, from[i], 3))
		}
	}
}

func TestFromIsTheLeastPlace(t *testing.T) {
	feeds(t, made(t, 9, like("a*")), "aab", hit(0, 0, 1), hit(0, 0, 2), hit(0, 0, 3))
	feeds(t, made(t, 9, like("a*b")), "aabab", none, none, hit(0, 0, 3), none, hit(0, 0, 5))
	feeds(t, made(t, 2, like("a*")), "aaab", hit(0, 0, 1), hit(0, 0, 2), hit(0, 1, 3), hit(0, 2, 4))
	feeds(t, made(t, 3, like("a*")), "axxaxx", hit(0, 0, 1), hit(0, 0, 2), hit(0, 0, 3), hit(0, 3, 4), hit(0, 3, 5), hit(0, 3, 6))
	feeds(t, made(t, 2, like("a*")), "axxx", hit(0, 0, 1), hit(0, 0, 2), none, none)
	feeds(t, made(t, 2, like("*")), "abcd", hit(0, 0, 1), hit(0, 0, 2), hit(0, 1, 3), hit(0, 2, 4))
}

// The head and the tail of a pattern may not share a byte.
func TestNoByteIsLikeTwoThings(t *testing.T) {
	feeds(t, made(t, 9, like("a*a")), "aba", none, none, hit(0, 0, 3))
	feeds(t, made(t, 9, like("ab*ba")), "ababba", none, none, none, none, none, hit(0, 0, 6))
	feeds(t, made(t, 9, like("ab*ba")), "aba", none, none, none)
	feeds(t, made(t, 9, like("a*?")), "aa", none, hit(0, 0, 2))
	feeds(t, made(t, 4, like("ab*ba")), "xababba", none, none, none, none, none, none, hit(0, 3, 7))
	feeds(t, made(t, 3, like("ab*ba")), "xababba", none, none, none, none, none, none, none)
}

func TestReset(t *testing.T) {
	l := []api.Branch{exact("abab"), like("a?b"), like("b*a"), like("ab*ab"), exact("aab")}
	const b = "abaabbabab"
	for cut := range len(b) + 1 {
		m := made(t, 5, l...)
		for i := range cut {
			m.Feed(b[i])
		}
		m.Reset()
		m.Reset()
		is(t, "Start behind Reset", start(m), none)
		for i := range len(b) {
			is(t, "Feed behind Reset", feed(m, b[i]), asAsked(5, b[:i+1], l)) // nothing of what came ahead
		}
	}
	m := made(t, 5, exact("ab"), like("c*d"), like("e?"))
	for _, s := range []string{"ab", "cd", "ef"} {
		m.Feed(s[0])
		m.Reset()
		is(t, "the second byte alone", feed(m, s[1]), none)
		m.Reset()
	}
}

// How far back a hit may begin.

func TestExactOnesThatAreTooLong(t *testing.T) {
	for most := 1; most <= 9; most++ {
		for n := 1; n <= 11; n++ {
			m := made(t, most, exact(strings.Repeat("a", n)))
			for i := range 14 {
				want := none
				if n <= most && i+1 >= n {
					want = hit(0, i+1-n, i+1)
				}
				is(t, "Feed", feed(m, 'a'), want)
			}
		}
	}
}

func TestRowsThatAreTooLong(t *testing.T) {
	for _, p := range []string{"a", "?", "[a-z]", "\\a"} {
		for most := 1; most <= 5; most++ {
			for n := 1; n <= 7; n++ {
				m := made(t, most, like(strings.Repeat(p, n)))
				for i := range 10 {
					want := none
					if n <= most && i+1 >= n {
						want = hit(0, i+1-n, i+1)
					}
					is(t, p, feed(m, 'a'), want)
				}
			}
		}
	}
}

// What stands between two pieces of a pattern counts, too.
func TestSpansThatAreTooLong(t *testing.T) {
	for most := 1; most <= 200; most++ {
		for _, between := range []int{0, 1, most - 3, most - 2, most - 1, 61, 62, 63, 64, 65, 127, 128, 129} {
			if between < 0 {
				continue
			}
			m := made(t, most, like("a*b"), like("[a]?*b"))
			for _, c := range []byte("xxa" + strings.Repeat("x", between)) {
				is(t, "ahead of the b", feed(m, c), none)
			}
			want := none
			if between+2 <= most {
				want = hit(0, 2, 4+between)
			}
			is(t, "b", feed(m, 'b'), want)
		}
	}
}

// Where the least place is too old, the next one is told, wherever that is.
func TestPlacesThatGrowTooOld(t *testing.T) {
	for _, most := range []int{1, 2, 5, 63, 64, 65, 130, 200} {
		for _, apart := range []int{1, 2, 3, 31, 62, 63, 64, 65, 66, 127, 128, 129, 190, 300} {
			m := made(t, most, like("a*"), like("a?*"))
			last := -1
			for i := range 700 {
				c := byte('x')
				if i%apart == 0 && i/apart%7 < 5 { // with longer pauses
					c, last = 'a', i
				}
				want := none
				for at := max(0, i+1-most); at <= last && !want.ok; at++ {
					if at%apart == 0 && at/apart%7 < 5 {
						want = hit(0, at, i+1)
					}
				}
				if got := feed(m, c); got != want {
					t.Fatalf("most %d, each %d, behind %d: %v, wanted %v", most, apart, i+1, got, want)
				}
			}
		}
	}
}

func TestGreatestMost(t *testing.T) {
	for _, most := range []int{maxMatch, maxMatch - 1} {
		for _, n := range []int{most - 1, most, most + 1} {
			row := strings.Repeat("a", n-1) + "b"
			whole, next := hit(0, 3, 3+n), hit(0, 4, 3+n)
			if n > most {
				first(t, most, "xxx"+row, none, exact(row))
				first(t, most, "xxx"+row, next, like("a*b"))
				continue
			}
			first(t, most, "xxx"+row, whole, exact(row))
			first(t, most, "xxx"+row, whole, like("a*b"))
		}
	}
}

// What bytes are.

func TestEachByte(t *testing.T) {
	for c := range 256 {
		s := string([]byte{byte(c)})
		set := "[" + s + "-" + s + "]"
		if s == "]" {
			set = "[" + s + "]" // behind a byte of the set, it ends it
		}
		ms := []*match.Matcher{made(t, 1, exact(s)), made(t, 1, like("\\"+s)), made(t, 1, like(glob.Escape(s))), made(t, 1, like("["+s+"]")), made(t, 2, like("*\\"+s)), made(t, 1, like(set))}
		for i := range 256 {
			for k, m := range ms {
				want := none
				if i == c {
					want = hit(0, i, i+1)
					if k == 4 {
						want.From = max(0, i-1)
					}
				}
				if got := feed(m, byte(i)); got != want {
					t.Errorf("of the byte %d, the matcher %d, the byte %d: %v, wanted %v", c, k, i, got, want)
				}
			}
		}
	}
	m := made(t, 1, like("?"))
	for c := range 256 {
		is(t, "any byte", feed(m, byte(c)), hit(0, c, c+1))
	}
}

// An exact one's Pattern is bytes, whatever they are in a glob one.
func TestExactOnesAreNoPatterns(t *testing.T) {
	for _, p := range []string{"*", "?", "[ab]", "\\a", "a*", "\xff\x00", "é", "a\nb"} {
		for _, b := range []string{p, "x" + p + "y", "abc", "", p + p} {
			agrees(t, 9, b, exact(p))
			agrees(t, 9, b, exact(p), like("?"))
		}
	}
}

func TestThingsOfPatterns(t *testing.T) {
	for _, p := range []string{"[*]", "[?]", "[\\]", "[[]", "[]]", "[]-a]", "[a-]", "[-a]", "[a-c-e]", "[c-a]", "[c-a]b", "\\*", "\\?", "\\[", "\\[a]", "\\\\", "\\]", "]", "-", "a-c", "[*]*[?]", "*[*]", "\\**", "*\\*", "[]*]*]", "[a]]", "[^a]", "[!a]", "\\*\\**\\*", "[[a]*[]a]"} {
		c := chance(len(p))
		for most := 1; most <= 6; most++ {
			agrees(t, most, p+"abc"+p, like(p))
			agrees(t, most, c.text("ab*?[]\\-^!c", 60), like(p))
			agrees(t, most, c.text(p+"a", 60), like(p), exact(p))
		}
	}
}

// A set's range with both ends, and all bytes between and around.
func TestRanges(t *testing.T) {
	for _, r := range []struct{ first, last int }{{0, 255}, {0, 0}, {255, 255}, {1, 254}, {127, 128}, {'a', 'z'}, {9, 8}} {
		m := made(t, 1, like(string([]byte{'[', byte(r.first), '-', byte(r.last), ']'})))
		for range 2 { // the same bytes once more are answered the same
			for c := range 256 {
				is(t, "a range", feed(m, byte(c)).ok, c >= r.first && c <= r.last)
			}
		}
	}
}

// All of it: the package against the document's words.

// patterns: all rows of so many of some pieces.
func patterns(of []string, n int) []string {
	l := []string{""}
	for range n {
		var longer []string
		for _, s := range l {
			for _, piece := range of {
				longer = append(longer, s+piece)
			}
		}
		l = longer
	}
	return l
}

func TestAllShortPatterns(t *testing.T) {
	c := chance(1)
	for n := range 5 {
		for _, p := range patterns([]string{"a", "b", "*", "?", "[ac]", "\\b"}, n) {
			for _, most := range []int{1, 2, 3, 5, 30} {
				agrees(t, most, c.text("aabbc", 14), like(p))
			}
		}
		for _, p := range patterns([]string{"a", "b"}, n) {
			for most := 1; most <= 6; most++ {
				agrees(t, most, c.text("ab", 30), exact(p))
			}
		}
	}
}

func TestAllShortTexts(t *testing.T) {
	l := []api.Branch{exact(""), exact("a"), exact("ab"), exact("aab"), exact("abab"), like(""), like("*"), like("?"), like("a*"), like("*a"), like("a*b"), like("?*b"), like("a*b*"), like("ab*ab"), like("*a*a*"), like("a**?b"), like("[b]*[a]")}
	for _, b := range texts("ab", 6) {
		for _, x := range l {
			for _, most := range []int{1, 2, 3, 4, 9} {
				agrees(t, most, b, x)
			}
		}
	}
}

// branch: any kind of branch, more often one that can be hit.
func (c *chance) branch(of string) api.Branch {
	switch k := c.below(12); {
	case k < 4:
		return exact(c.text(of, c.below(5)))
	case k < 10:
		var p string
		for range c.below(7) {
			p += []string{"*", "?", "[ab]", "[b-d]", "\\a", "a", "b", c.text(of, 1)}[c.below(8)]
		}
		return like(p)
	default:
		return api.Branch{Kind: k - 8, Pattern: c.text(of, c.below(3))}
	}
}

func TestAnyBranches(t *testing.T) {
	for seed := range 1500 {
		c := chance(seed)
		of := []string{"ab", "abc", "aaab", "abcdefgh"}[seed%4]
		l := make([]api.Branch, c.below(5))
		for i := range l {
			l[i] = c.branch(of)
		}
		agrees(t, 1+c.below(12), c.text(of, c.below(40)), l...)
		if t.Failed() {
			t.Fatal("seed", seed)
		}
	}
}

func TestLongTexts(t *testing.T) {
	for seed := range 30 {
		c := chance(seed)
		l := []api.Branch{exact(c.text("ab", 9)), like(c.text("ab", 7) + "*" + c.text("ab", 5)), like(c.text("ab?", 4) + "*" + c.text("ab*", 8))}
		agrees(t, 50+c.below(100), c.text("ab", 250), l...)
		if t.Failed() {
			t.Fatal("seed", seed)
		}
	}
}

// P15.3: First.

func TestFirst(t *testing.T) {
	first(t, 9, "", none, exact("a"), like("?"))
	first(t, 9, "", hit(1, 0, 0), exact("a"), like("*"))
	first(t, 9, "abc", hit(1, 0, 0), exact("a"), exact("")) // of no bytes, ahead of all others
	first(t, 9, "abc", hit(0, 0, 1), exact("a"))
	first(t, 9, "abc", hit(0, 2, 3), exact("c"))
	first(t, 9, "abc", none, exact("d"))
	first(t, 9, "abc", none, exact("abcd"), like("????"))
	first(t, 9, "aab", hit(0, 1, 3), exact("ab"))
	first(t, 9, "abcabc", hit(1, 1, 2), exact("bc"), exact("b")) // the least number of bytes, not the first branch
	first(t, 2, "xabc", hit(1, 3, 4), exact("abc"), exact("c"))
	if h, ok, e := match.First(9, nil, like("*")); h != (match.Hit{}) || !ok || e != 0 {
		t.Errorf("First of nil: %v, %v, %v", h, ok, e)
	}
	if h, ok, e := match.First(9, nil); h != (match.Hit{}) || ok || e != 0 {
		t.Errorf("First of nothing: %v, %v, %v", h, ok, e)
	}
}

// P15.4: it hangs on the bytes alone; an exact branch is hit where its Pattern's first place ends.

func TestExactBranchAloneIsHitAtItsFirstPlace(t *testing.T) {
	for seed := range 600 {
		c := chance(seed)
		b, p := c.text("ab", c.below(60)), c.text("ab", c.below(7))
		want := none
		if at, ok := kmp.First([]byte(b), []byte(p)); ok {
			want = hit(0, at, at+len(p))
		}
		first(t, max(1, len(p)), b, want, exact(p))
		first(t, maxMatch, b, want, exact(p))
		if len(p) > 1 {
			first(t, len(p)-1, b, none, exact(p))
		}
	}
}

func TestTheSameBytesAgain(t *testing.T) {
	l := []api.Branch{exact("aba"), like("b*a?"), like("[ab]")}
	c := chance(7)
	b := c.text("abc", 200)
	one, another := made(t, 20, l...), made(t, 20, l...)
	for range 3 {
		another.Feed('a')
		another.Start()
		another.Reset()
		for i := range len(b) {
			for range i % 3 {
				is(t, "Start", start(one), none)
			}
			is(t, "Feed", feed(one, b[i]), feed(another, b[i]))
		}
		one.Reset()
	}
}

// A nil matcher, and P1: no call panics, and all end.

func TestNilMatcher(t *testing.T) {
	var m *match.Matcher
	for range 2 {
		is(t, "Start", start(m), none)
		is(t, "Feed", feed(m, 'a'), none)
		is(t, "Feed", feed(m, 0), none)
		m.Reset()
	}
}

func TestAnyPatternEnds(t *testing.T) {
	for seed := range 3000 {
		c := chance(seed)
		p := c.text("ab*?[]\\-\x00\xff", c.below(12))
		e := glob.Check(p)
		m, got := match.New(5, like(p))
		if got != e || (m == nil) != (e != 0) {
			t.Fatalf("New of %q: %v, %v, wanted %v", p, m, got, e)
		}
		if e == 0 {
			agrees(t, 1+c.below(9), c.text("ab*?[]\\-\x00\xff", 12), like(p))
		}
	}
}

// last: what is told behind the last of so many bytes.
func last(m *match.Matcher, c byte, n int) told {
	for range n - 1 {
		m.Feed(c)
	}
	return feed(m, c)
}

func TestGreatSpans(t *testing.T) {
	inTime(t, "a great span", func() {
		is(t, "each one a hit", last(made(t, maxMatch, like("*")), 'a', 3*maxMatch), hit(0, 2*maxMatch, 3*maxMatch))
		is(t, "a*", last(made(t, maxMatch, like("a*")), 'a', 2*maxMatch), hit(0, maxMatch, 2*maxMatch))
		is(t, "a*a*?", last(made(t, maxMatch, like("a*a*?")), 'a', 2*maxMatch), hit(0, maxMatch, 2*maxMatch))
		is(t, "a*b", last(made(t, maxMatch, like("a*b"), like("*b*")), 'a', 3*maxMatch), none)
		m := made(t, maxMatch, like(strings.Repeat("a", 99)+"*"+strings.Repeat("a", 99)+"b"))
		is(t, "long rows", last(m, 'a', 2*maxMatch), none)
		is(t, "long rows, and the end", feed(m, 'b'), hit(0, maxMatch+1, 2*maxMatch+1))
		m = made(t, maxMatch, exact(strings.Repeat("a", maxMatch-1)+"b"))
		is(t, "a long exact one", last(m, 'a', 2*maxMatch), none)
		is(t, "a long exact one, and its end", feed(m, 'b'), hit(0, maxMatch+1, 2*maxMatch+1))
	})
}

func TestGreatPatterns(t *testing.T) {
	inTime(t, "a great pattern", func() {
		const n = 20000
		for _, p := range []string{strings.Repeat("a*", maxGlob/2), strings.Repeat("*a", maxGlob/2), strings.Repeat("a", maxGlob), strings.Repeat("?", maxGlob), strings.Repeat("[a]", maxGlob/3), strings.Repeat("*", maxGlob), "[" + strings.Repeat("a", maxGlob-2) + "]", strings.Repeat("\\a", maxGlob/2)} {
			m := made(t, 2000, like(p))
			is(t, p[:6], last(m, 'a', n).ok, true)
			is(t, p[:6], feed(m, 'b').ok, p[len(p)-1] == '*' || p[0] == '?')
		}
		l := slices.Repeat([]api.Branch{like(strings.Repeat("a*", maxGlob/2-1) + "b")}, maxBranches)
		is(t, "64 of them", last(made(t, 2000, l...), 'a', n/20), none)
	})
}

func TestResetOfGreatOnes(t *testing.T) {
	inTime(t, "Reset", func() {
		m := made(t, maxMatch, exact(strings.Repeat("ab", maxMatch/2)), like("a*b"))
		for range maxMatch {
			m.Feed('a')
			m.Reset()
		}
		is(t, "Feed", feed(m, 'a'), none)
		is(t, "Feed", feed(m, 'b'), hit(1, 0, 2))
	})
}

// inUse: how much memory is in use, when all that nobody has any more was let go.
func inUse() int {
	runtime.GC()
	runtime.GC()
	var m runtime.MemStats
	runtime.ReadMemStats(&m)
	return int(m.HeapAlloc)
}

// What is kept is no more than what came within a span, for all branches together, and far less where a span is great and little came.
func TestMemory(t *testing.T) {
	before := inUse()
	few := make([]*match.Matcher, 200)
	for i := range few {
		few[i] = made(t, maxMatch, like("a*b"), exact("ab"), like("*b"))
		last(few[i], 'a', 20)
	}
	if n := inUse() - before; n > 4*maxMatch {
		t.Errorf("%d matchers to which little came: %d bytes of memory", len(few), n)
	}
	runtime.KeepAlive(few)
	before = inUse()
	var l []api.Branch
	for _, p := range []string{"a*b", "*b", "?*b", "a*a*b", "aa*b", "[ab]*c", "a*", "*"} {
		l = append(l, like(p))
	}
	m := made(t, maxMatch, l...)
	last(m, 'a', 4*maxMatch)
	if n := inUse() - before; n > 4*maxMatch {
		t.Errorf("a matcher to which much came: %d bytes of memory", n)
	}
	m.Reset()
	runtime.KeepAlive(m)
}

// P2: matchers that were made apart.

func TestMatchersAreApart(t *testing.T) {
	l := []api.Branch{exact("ab"), like("b*c"), like("[c]d")}
	one, another := made(t, 5, l...), made(t, 5, l...)
	one.Feed('a')
	is(t, "the other one", feed(another, 'b'), none)
	is(t, "the one", feed(one, 'b'), hit(0, 0, 2))
	another.Reset()
	is(t, "the one", feed(one, 'c'), hit(1, 1, 3))
	is(t, "the other one", feed(another, 'c'), none)
	is(t, "the other one", feed(another, 'd'), hit(2, 0, 2))
	is(t, "the one", feed(one, 'd'), hit(2, 2, 4))
}

// Rule 4: what is handed in.

func TestListsAreNotChangedAndNotKept(t *testing.T) {
	whole := []api.Branch{{Kind: 9}, exact("ab"), like("b*c"), {Kind: 9}}
	want := slices.Clone(whole)
	m := made(t, 9, whole[1:3]...) // with branches that are wrong ahead of it, and behind it in its memory
	first(t, 9, "ab", hit(0, 0, 2), whole[1:3]...)
	is(t, "the branches", slices.Equal(whole, want), true)
	for i := range whole {
		whole[i] = like("*")
	}
	is(t, "Start", start(m), none)
	feeds(t, m, "abxc", none, hit(0, 0, 2), none, hit(1, 1, 4))
	m.Reset()
	is(t, "Start behind Reset", start(m), none)
	feeds(t, m, "abxc", none, hit(0, 0, 2), none, hit(1, 1, 4))
}

func TestBytesOfFirstAreNotChanged(t *testing.T) {
	whole := []byte("xabcab")
	h, ok, e := match.First(9, whole[1:3], exact("abc"), exact("bc"), exact("xa"))
	if h != (match.Hit{}) || ok || e != 0 { // nothing ahead of it, or behind it in its memory, is read
		t.Errorf("First: %v, %v, %v", h, ok, e)
	}
	h, ok, e = match.First(9, whole[1:4], like("a*c"))
	if h != (match.Hit{To: 3}) || !ok || e != 0 {
		t.Errorf("First: %v, %v, %v", h, ok, e)
	}
	is(t, "the bytes", string(whole), "xabcab")
}
