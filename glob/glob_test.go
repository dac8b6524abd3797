package glob_test

import (
	"math"
	"strings"
	"testing"
	"time"

	"cuecard/api"
	"cuecard/glob"
)

// The signatures are part of what is asked: a change of one must not build.
var (
	_ func(string) api.Errno                           = glob.Check
	_ func(string, string) (bool, api.Errno)           = glob.Match
	_ func(string, string, int) (int, bool, api.Errno) = glob.Span
	_ func(string) string                              = glob.Escape
)

// The limit and the errors, by their numbers.
const (
	maxGlob = 1024
	noForm  = 4
	tooLong = 6
)

// spanned: what Span answers.
type spanned struct {
	at int
	ok bool
	e  api.Errno
}

func checks(t *testing.T, p string, want api.Errno) {
	t.Helper()
	if got := glob.Check(p); got != want {
		t.Errorf("Check(%.99q): %v, wanted %v", p, got, want)
	}
}

func matches(t *testing.T, p, text string, want bool) {
	t.Helper()
	if got, e := glob.Match(p, text); got != want || e != 0 {
		t.Errorf("Match(%.99q, %.99q): %v, %v, wanted %v", p, text, got, e, want)
	}
}

func spans(t *testing.T, p, text string, most int, want spanned) {
	t.Helper()
	at, ok, e := glob.Span(p, text, most)
	if got := (spanned{at, ok, e}); got != want {
		t.Errorf("Span(%.99q, %.99q, %d): %v, wanted %v", p, text, most, got, want)
	}
}

// found: the answer of a place that there is.
func found(at int) spanned { return spanned{at: at, ok: true} }

// refused: a pattern is wrong, and all calls tell so, and no more, whatever else they are given.
func refused(t *testing.T, p string, want api.Errno) {
	t.Helper()
	checks(t, p, want)
	for _, text := range []string{"", p, "a", "ab]"} {
		if ok, e := glob.Match(p, text); ok || e != want {
			t.Errorf("Match(%.99q, %.99q): %v, %v, wanted false, %v", p, text, ok, e, want)
		}
		for _, most := range []int{math.MinInt, -1, 0, 1, math.MaxInt} {
			spans(t, p, text, most, spanned{e: want})
		}
	}
}

// one: a text of one byte.
func one(c int) string { return string([]byte{byte(c)}) }

// The document's words, taken as they stand: what is held against the package.

// thing: any bytes, or one of some bytes.
type thing struct {
	star bool
	of   string
}

var every = func() string {
	b := make([]byte, 256)
	for c := range b {
		b[c] = byte(c)
	}
	return string(b)
}()

// wantThings: the things of a pattern, and whether it is right but for its length.
func wantThings(p string) ([]thing, bool) {
	if p == "" {
		return nil, true
	}
	var x thing
	n := 1
	switch p[0] {
	case '*':
		x.star = true
	case '?':
		x.of = every
	case '\\':
		n = 2
		if len(p) < n {
			return nil, false
		}
		x.of = p[1:2]
	case '[':
		n = 2 // the place of the next ], from the set's second byte on
		for n < len(p) && p[n] != ']' {
			n++
		}
		if n >= len(p) {
			return nil, false
		}
		x.of = wantSet(p[1:n])
		n++
	default:
		x.of = p[:1]
	}
	l, ok := wantThings(p[n:])
	return append([]thing{x}, l...), ok
}

// wantSet: the bytes that one of a set is like.
func wantSet(s string) string {
	if s == "" {
		return ""
	}
	if len(s) < 3 || s[1] != '-' {
		return s[:1] + wantSet(s[1:])
	}
	between := ""
	for i := range len(every) {
		if every[i] >= s[0] && every[i] <= s[2] {
			between += every[i : i+1]
		}
	}
	return between + wantSet(s[3:])
}

// wantMatch: whether a text can be cut into pieces, one for each thing.
func wantMatch(l []thing, text string) bool {
	if len(l) == 0 {
		return text == ""
	}
	if !l[0].star {
		return text != "" && strings.IndexByte(l[0].of, text[0]) >= 0 && wantMatch(l[1:], text[1:])
	}
	for n := range len(text) + 1 {
		if wantMatch(l[1:], text[n:]) {
			return true
		}
	}
	return false
}

func wantSpan(l []thing, text string, most int) spanned {
	for at := range len(text) + 1 {
		if len(text)-at <= most && wantMatch(l, text[at:]) {
			return found(at)
		}
	}
	return spanned{}
}

// holds: all that the document says of a pattern, and of some texts.
func holds(t *testing.T, p string, texts []string) {
	t.Helper()
	l, ok := wantThings(p)
	if !ok {
		refused(t, p, noForm)
		return
	}
	checks(t, p, 0)
	for _, text := range texts {
		matches(t, p, text, wantMatch(l, text))
		for most := -1; most <= len(text)+1; most++ {
			spans(t, p, text, most, wantSpan(l, text, most))
		}
	}
}

// rows: all texts of at most so many of some bytes.
func rows(of string, most int) []string {
	all := []string{""}
	for i := 0; len(all[i]) < most; i++ {
		for k := range len(of) {
			all = append(all, all[i]+of[k:k+1])
		}
	}
	return all
}

// chance: numbers that are the same in every run.
type chance uint32

func (c *chance) below(n int) int {
	*c = *c*1664525 + 1013904223
	return int(*c>>8) % n
}

// row: so many bytes, each one of some.
func (c *chance) row(of string, n int) string {
	b := make([]byte, n)
	for i := range b {
		b[i] = of[c.below(len(of))]
	}
	return string(b)
}

// inTime: it ends, and in less time than it would take to try each way to cut a text.
func inTime(t *testing.T, what string, do func()) {
	t.Helper()
	done := make(chan bool)
	go func() {
		defer close(done)
		do()
	}()
	select {
	case <-done:
	case <-time.After(time.Minute):
		t.Fatal(what, "takes too long")
	}
}

// P13.1: Check.

func TestCheck(t *testing.T) {
	for _, p := range []string{"", "a", "*", "?", "]", "-", "^", "!", "a]", "]]", "[a]", "[]]", "[]]]", "[[]", "[[]]", "[*]", "[?]", "[-]", "[--]", "[---]", "[]-]", "[]-a]", `[\]`, `[\\]`, `[\]]`, `\\`, `\[`, `\]`, `\*`, `\a`, `\\\[`, `a\\`, "[c-a]", "[a-]", "[-a]", "[^a]", "[\x00]", "\x00", "\xff", "**", "*[a]*[b]*", `\[a`, `[a]\]`, `\\[a]`} {
		checks(t, p, 0)
	}
	for _, p := range []string{"[", "[]", "[a", "[a-", "[a-c", "[[", "[]a", "[^", "[*", "[?", `[\`, `[\\`, `\`, `\\\`, `a\`, `*\`, `[a]\`, `[a]\\\`, "a[", "*[", "a[]", "[a][", "[a][]", "[a][b", `\\[`, `\a[`, "][", `\[[`, `[\][`, "[[]["} {
		refused(t, p, noForm)
	}
}

func TestCheckOfEachByte(t *testing.T) {
	for c := range 256 {
		checks(t, `\`+one(c), 0)
		checks(t, "["+one(c)+"]", 0)
		checks(t, "["+one(c)+"-"+one(c)+"]", 0)
		if c == '[' || c == '\\' {
			refused(t, one(c), noForm)
			refused(t, "a*?"+one(c), noForm)
		} else {
			checks(t, one(c), 0)
			checks(t, "a*?"+one(c), 0)
		}
		if c != ']' {
			refused(t, "["+one(c), noForm)
		}
	}
}

func TestCheckOfLengths(t *testing.T) {
	for _, s := range []string{"a", "*", "?", "]", "a*", "?a", `\a`, `\\`, `\[`, "[a]b", "[a-c]abc", "\xff"} {
		p := strings.Repeat(s, maxGlob/len(s))
		checks(t, p, 0)
		refused(t, p+"a", tooLong)
		refused(t, p+"[", tooLong)
		refused(t, p+`\`, tooLong)
		refused(t, "["+p, tooLong)
		refused(t, p[:maxGlob-1]+`\\`, tooLong) // wrong within the limit, right beyond it, too
		refused(t, p[:maxGlob-4]+"[abc]", tooLong)
		refused(t, strings.Repeat(p, 99), tooLong)
	}
	row := strings.Repeat("a", maxGlob)
	checks(t, row[:maxGlob-1], 0)
	checks(t, row[:maxGlob-2]+`\\`, 0)
	refused(t, row[:maxGlob-1]+`\`, noForm)
	refused(t, row[:maxGlob-1]+"[", noForm)
	refused(t, row[:maxGlob-2]+"[]", noForm)
	refused(t, "["+row[1:], noForm)
	checks(t, "["+row[:maxGlob-2]+"]", 0)
	refused(t, "["+row[:maxGlob-1]+"]", tooLong)
	refused(t, strings.Repeat("[", 9*maxGlob), tooLong)
	refused(t, strings.Repeat(`\`, maxGlob+1), tooLong)
	checks(t, strings.Repeat(`\`, maxGlob), 0)
	refused(t, strings.Repeat(`\`, maxGlob-1), noForm)
}

// P13.1: Match.

func TestMatch(t *testing.T) {
	matches(t, "a*b", "aXXb", true)
	matches(t, "a*b", "ab", true)
	matches(t, "[a-c]?", "bz", true)
	matches(t, "", "", true)
	matches(t, "", "a", false)
	matches(t, "a", "", false)
	matches(t, "a", "aa", false) // the whole text, not an end of it
	matches(t, "a", "ba", false)
	matches(t, "a", "ab", false)
	matches(t, "?", "", false)
	matches(t, "?", "aa", false)
	matches(t, "[a]", "", false)
	matches(t, "*", "", true)
	matches(t, "*", "a\x00\xff", true)
	matches(t, "**", "", true)
	matches(t, "***", "abc", true)
	matches(t, "*?", "", false)
	matches(t, "?*", "a", true)
	matches(t, "*?*?*", "a", false)
	matches(t, "*?*?*", "ab", true)
	matches(t, "a*a", "a", false) // no byte is two things'
	matches(t, "ab*ba", "aba", false)
	matches(t, "ab*ba", "abba", true)
	matches(t, "*ab*ba*", "xabax", false)
	matches(t, "*ab*ba*", "xabbax", true)
	matches(t, "*a*b", "xaxbxc", false)
	matches(t, "a*b*", "xab", false)
	matches(t, "a*bc*c", "abc", false)
	matches(t, "a*b*a*b*a", "ababa", true)
	matches(t, "*aab*", "aaab", true) // the first a is none of its own
	matches(t, "*aba", "ababab", false)
	matches(t, "*abab*ab", "abab", false)
	matches(t, "*abab*ab", "ababab", true)
	matches(t, "?b*", "ab", true)
	matches(t, "*?b", "b", false)
}

func TestMatchOfBytes(t *testing.T) {
	matches(t, "?", "\xc3\xa4", false) // bytes, not runes
	matches(t, "??", "\xc3\xa4", true)
	matches(t, "[\xc3\xa4]", "\xc3\xa4", false)
	matches(t, "[\xc3\xa4]", "\xa4", true)
	matches(t, "\\\xc3\xa4", "\xc3\xa4", true)
	matches(t, "\xff*\xfe", "\xff\xfd\xfe", true)
	for c := range 256 {
		for d := range 256 {
			same := c == d
			if strings.IndexByte(`*?[\`, byte(c)) < 0 {
				matches(t, one(c), one(d), same)
			}
			matches(t, `\`+one(c), one(d), same)
			matches(t, "["+one(c)+"]", one(d), same)
			matches(t, "["+one(c)+"-]", one(d), same || d == '-')
			if c != ']' { // else that ends the set
				matches(t, "[-"+one(c)+"]", one(d), same || d == '-')
			}
		}
		matches(t, "?", one(c), true)
		matches(t, "*", one(c), true)
		matches(t, `\`+one(c), `\`+one(c), false)
		matches(t, `\`+one(c), "", false)
		matches(t, "x"+`\`+one(c)+"y", "x"+one(c)+"y", true)
	}
}

func TestMatchOfRanges(t *testing.T) {
	for first := range 256 {
		for last := range 256 {
			p := "[" + one(first) + "-" + one(last) + "]"
			if last != ']' { // else that ends the set
				for _, c := range []int{0, first - 1, first, first + 1, last - 1, last, last + 1, 255} {
					if c >= 0 && c <= 255 {
						matches(t, p, one(c), c >= first && c <= last)
					}
				}
			}
		}
	}
	for _, p := range []string{"[\x00-\xff]", "[a-z]", "[z-a]", "[a-a]", "[b-a]", "[*--]", "[---]", "[--a]", "[]-a]", "[[-a]", "[+--/]", "[a-c-e]", "[a-ce-g]", "[a-c-e-g]", "[c-ae]", "[ec-a]", "[a--]", "[a--b]", "[a-c-]", "[-a-c]", "[a-ca-c]", "[a-cb-d]", "[^a]", "[!a]", "[^a-c]", `[\]`, `[\a]`, `[\-a]`, `[a-\]`, "[a*?]", "[[a]", "[a-b-c-d-e]", "[\xfe-\xff]", "[\xff-\xfe]", "[\x00-\x00]", "[\xff-\xff]", "[a,b]", "[a\n]"} {
		l, ok := wantThings(p)
		if !ok || len(l) != 1 {
			t.Fatalf("%q isn't one set", p)
		}
		for c := range 256 {
			matches(t, p, one(c), strings.IndexByte(l[0].of, byte(c)) >= 0)
		}
		matches(t, p, "", false)
		matches(t, p, "aa", false)
	}
}

// What the sets are in words, so that the list above doesn't hang on wantSet alone.
func TestMatchOfSets(t *testing.T) {
	for _, c := range []struct{ p, in, out string }{
		{"[]a]", "]a", "[-b"},
		{"[]-a]", "]^_`a", `\b-`},
		{"[a-]", "a-", "b]"},
		{"[-a]", "a-", "b."},
		{"[a-c]", "abc", "`d-"},
		{"[c-a]", "", "abc-"},
		{"[c-ae]", "e", "abcd-"},
		{"[a-c-e]", "abc-e", "d."},
		{"[a-ce]", "abce", "d-"},
		{"[a--b]", "b", "a-`"},
		{"[--a]", "-.a0A", ",b"},
		{"[---]", "-", ",.]"},
		{"[--]", "-", ",.]"},
		{"[^a]", "^a", "b"},
		{"[!a]", "!a", "b"},
		{`[\a]`, `\a`, "]["},
		{`[\]`, `\`, "]["},
		{"[*?]", "*?", "a"},
		{"[[]", "[", "]"},
	} {
		for i := range len(c.in) {
			matches(t, c.p, c.in[i:i+1], true)
		}
		for i := range len(c.out) {
			matches(t, c.p, c.out[i:i+1], false)
		}
	}
	matches(t, "[a]]", "a]", true) // the first ] ends it
	matches(t, "[a]]", "]", false)
	matches(t, `[\]]`, `\]`, true)
	matches(t, `[\]]`, "]", false)
	matches(t, "[]]]", "]]", true)
	matches(t, "[a-]]", "-]", true)
	matches(t, "[a-]b]", "ab]", true)
	matches(t, "[[]]", "[]", true)
	matches(t, "[][a]", "[", true)
	matches(t, "[ab][ab]", "ba", true)
	matches(t, "*[0-9]*[a-f]", "x7yc", true)
	matches(t, "*[0-9]*[a-f]", "xcy7", false)
}

// All short patterns, of each byte that means something and a few that don't.
func TestAllShort(t *testing.T) {
	texts := rows("ab]-", 2)
	for _, p := range rows("*?[]\\-ab", 4) {
		holds(t, p, texts)
	}
	for _, p := range rows("[]-ab", 5) {
		holds(t, "["+p, []string{"", "a", "b", "-", "]", "[", "a]"})
	}
	texts = rows("ab", 5)
	for _, p := range rows("*?a", 5) {
		holds(t, p, texts)
	}
	texts = append(texts[:63:63], "ababab", "abbabb", "aabaab", "bababa", "abaabaaba")
	for _, p := range rows("*ab", 6) {
		holds(t, p, texts)
	}
}

func TestAnyPatterns(t *testing.T) {
	parts := []string{"*", "*", "*", "?", "a", "b", "ab", "ba", "[ab]", "[a-b]", "[b-a]", "[]a]", `\a`, `\*`, `[\]`, "]", "[", `\`}
	right := 0
	for seed := range 20000 {
		c := chance(seed)
		p := ""
		for range c.below(9) {
			p += parts[c.below(len(parts)-2*c.below(2))]
		}
		texts := []string{c.row("ab", c.below(9)), c.row("ab]*", c.below(9)), c.row("a\\", c.below(5))}
		l, ok := wantThings(p)
		if ok {
			right++
			texts = append(texts, c.alike(l), c.alike(l)+"b", "a"+c.alike(l))
		}
		if holds(t, p, texts); t.Failed() {
			return
		}
	}
	if right < 9000 {
		t.Errorf("only %d are right", right)
	}
}

// alike: a text that is like things, if each can be.
func (c *chance) alike(l []thing) string {
	s := ""
	for _, x := range l {
		if x.star {
			s += c.row("ab", c.below(3))
		} else if x.of != "" {
			s += c.row(x.of, 1)
		}
	}
	return s
}

// P13.2: Span.

func TestSpan(t *testing.T) {
	spans(t, "b*", "xbyb", 9, found(1))
	spans(t, "b*", "xbyb", 4, found(1))
	spans(t, "b*", "xbyb", 3, found(1))
	spans(t, "b*", "xbyb", 2, found(3))
	spans(t, "b*", "xbyb", 1, found(3))
	spans(t, "b*", "xbyb", 0, spanned{})
	spans(t, "b", "xbyb", 9, found(3)) // to the end, not a piece of it
	spans(t, "x", "xbyb", 9, spanned{})
	spans(t, "xbyb", "xbyb", 4, found(0))
	spans(t, "xbyb", "xbyb", 3, spanned{})
	spans(t, "*b", "xbyb", 9, found(0))
	spans(t, "*b", "xbyb", 3, found(1))
	spans(t, "?b", "xbyb", 9, found(2))
	spans(t, "[bx]*[yb]", "xbyb", 3, found(1))
	spans(t, "", "xbyb", 9, found(4)) // the text's length is a place, too
	spans(t, "", "xbyb", 0, found(4))
	spans(t, "*", "xbyb", 0, found(4))
	spans(t, "*", "xbyb", 1, found(3))
	spans(t, "*", "xbyb", 4, found(0))
	spans(t, "?", "xbyb", 0, spanned{})
	spans(t, "?", "", 9, spanned{})
	spans(t, "", "", 0, found(0))
	spans(t, "*", "", 0, found(0))
	spans(t, "ab*ab", "abab", 9, found(0))
	spans(t, "ab*ab", "abab", 3, spanned{})
	spans(t, "ab*ab", "ab", 9, spanned{})
	spans(t, "a*b*c", "aabbcc", 9, found(0))
	spans(t, "a*b*c", "aabbcc", 5, found(1))
	spans(t, "a*b*c", "aabbcc", 4, spanned{})
	spans(t, "ab*", "aaab", 9, found(2))
}

func TestSpanOfAnyMost(t *testing.T) {
	for _, most := range []int{math.MinInt, math.MinInt + 1, -1 << 32, -5, -4, -1} {
		for _, p := range []string{"", "*", "a", "b*", "xbyb", "?"} {
			spans(t, p, "xbyb", most, spanned{})
			spans(t, p, "", most, spanned{})
		}
		refused(t, "[", noForm)
	}
	for _, most := range []int{4, 5, 1 << 32, math.MaxInt - 1, math.MaxInt} {
		spans(t, "", "xbyb", most, found(4))
		spans(t, "*", "xbyb", most, found(0))
		spans(t, "b*", "xbyb", most, found(1))
		spans(t, "a", "xbyb", most, spanned{})
		spans(t, "*", "", most, found(0))
		spans(t, "a", "", most, spanned{})
	}
	row := strings.Repeat("ab", 600) // longer than a pattern may be
	for most := range len(row) + 9 {
		spans(t, "*", row, most, found(max(0, len(row)-most)))
		spans(t, "", row, most, found(len(row)))
		if most < 2 {
			spans(t, "a*", row, most, spanned{})
		} else {
			spans(t, "a*", row, most, found(max(0, len(row)-most/2*2)))
		}
	}
}

// Match and Span are of one mind: a whole text is like a pattern just if its first place is one.
func TestSpanAndMatch(t *testing.T) {
	for seed := range 9000 {
		c := chance(seed)
		p, text := c.row("**?ab", c.below(30)), c.row("ab", c.below(40))
		at, ok, _ := glob.Span(p, text, len(text))
		matches(t, p, text, ok && at == 0)
		if !ok {
			continue
		}
		matches(t, p, text[at:], true)
		for i := range at {
			matches(t, p, text[i:], false)
		}
		spans(t, p, text, len(text)-at, found(at))
	}
}

// P13.3: Escape.

func TestEscape(t *testing.T) {
	for text, want := range map[string]string{"": "", "a": "a", "*": `\*`, "?": `\?`, "[": `\[`, `\`: `\\`, "]": "]", "-": "-", "^": "^", "a*[b]\\?": `a\*\[b]\\\?`, "**": `\*\*`, `\*`: `\\\*`, "\xff\x00\n": "\xff\x00\n", "\xc3\xa4": "\xc3\xa4"} {
		if got := glob.Escape(text); got != want {
			t.Errorf("Escape(%q): %q, wanted %q", text, got, want)
		}
	}
	for c := range 256 {
		want := one(c)
		if c == 42 || c == 63 || c == 91 || c == 92 {
			want = `\` + want
		}
		if got := glob.Escape(one(c)); got != want {
			t.Errorf("Escape(%q): %q, wanted %q", one(c), got, want)
		}
		if got := glob.Escape("x" + one(c) + "y"); got != "x"+want+"y" {
			t.Errorf("Escape(%q): %q, wanted %q", "x"+one(c)+"y", got, "x"+want+"y")
		}
	}
}

func TestEscapedIsLikeTheTextAlone(t *testing.T) {
	all := rows("*?[]\\-a", 4)
	others := rows("*?[]\\-a", 2)
	for _, text := range all {
		p := glob.Escape(text)
		checks(t, p, 0)
		matches(t, p, text, true)
		matches(t, p, text+"a", false)
		matches(t, p, "a"+text, false)
		spans(t, p, "x"+text, 9, found(1))
		for _, other := range others {
			matches(t, p, other, other == text)
		}
	}
	for seed := range 2000 {
		c := chance(seed)
		text := c.row(every, 1+c.below(400))
		p := glob.Escape(text)
		matches(t, p, text, true)
		i := c.below(len(text))
		other := text[:i] + one(int(text[i])+1+c.below(255)) + text[i+1:]
		matches(t, p, other, false)
		matches(t, p, text[:i]+text[i+1:], false)
	}
}

// Whatever its length: nothing is checked.
func TestEscapeOfLongTexts(t *testing.T) {
	for _, n := range []int{maxGlob / 2, maxGlob/2 + 1, maxGlob, maxGlob + 1, 1 << 20} {
		if got := glob.Escape(strings.Repeat("a", n)); got != strings.Repeat("a", n) {
			t.Errorf("of %d times a: %d bytes", n, len(got))
		}
		if got := glob.Escape(strings.Repeat("*", n)); got != strings.Repeat(`\*`, n) {
			t.Errorf("of %d times *: %d bytes", n, len(got))
		}
	}
	stars := strings.Repeat("*", maxGlob/2)
	matches(t, glob.Escape(stars), stars, true)
	matches(t, glob.Escape(stars), stars[1:], false)
	refused(t, glob.Escape(stars+"a"), tooLong)
	row := strings.Repeat("a", maxGlob)
	matches(t, glob.Escape(row), row, true)
	refused(t, glob.Escape(row+"a"), tooLong)
}

// Rule 7: what a call answers hangs on its arguments alone.
func TestTheSameAgain(t *testing.T) {
	for range 3 {
		matches(t, "a*b", "aXXb", true)
		refused(t, "[", noForm)
		matches(t, "[a-c]?", "bz", true)
		spans(t, "b*", "xbyb", 9, found(1))
		refused(t, strings.Repeat("a", maxGlob+1), tooLong)
		spans(t, "b*", "xbyb", -1, spanned{})
		if got := glob.Escape("a*"); got != `a\*` {
			t.Errorf("Escape: %q", got)
		}
	}
}

// P1: every call ends, and none panics.

func TestAnyBytes(t *testing.T) {
	for seed := range 20000 {
		c := chance(seed)
		p, text := c.row(every, c.below(40)), c.row(every, c.below(40))
		most := c.below(99) - 30
		l, ok := wantThings(p)
		if !ok {
			checks(t, p, noForm)
			spans(t, p, text, most, spanned{e: noForm})
			continue
		}
		matches(t, p, text, wantMatch(l, text))
		spans(t, p, text, most, wantSpan(l, text, most))
	}
	for a := range 256 {
		for b := range 256 {
			p := one(a) + one(b)
			_, ok := wantThings(p)
			if got := glob.Check(p); (got == 0) != ok || !ok && got != noForm {
				t.Errorf("Check(%q): %v", p, got)
			}
		}
	}
}

func TestMatchOfManyStars(t *testing.T) {
	inTime(t, "Match", func() {
		row := strings.Repeat("a", 3000)
		for _, p := range []string{strings.Repeat("a*", 500), strings.Repeat("*a", 500), strings.Repeat("*a*", 300), strings.Repeat("a*?*", 250), strings.Repeat("*[a]", 200)} {
			matches(t, p, row, true)
			matches(t, p+"b", row, false)
			matches(t, "b"+p, row, false)
			matches(t, p+"b*", row, false)
			matches(t, "*b"+p, row, false)
			matches(t, p+"b*", row+"b"+row, true)
			matches(t, "*b"+p, row+"b"+row, true)
			spans(t, "b"+p, row+"b"+row, 9999, found(3000))
			matches(t, p+"b*b", row+"ba", false)
		}
		matches(t, strings.Repeat("*", maxGlob), row, true)
		matches(t, strings.Repeat("*", maxGlob-1)+"b", row, false)
		matches(t, strings.Repeat("?", maxGlob), row[:maxGlob], true)
		matches(t, strings.Repeat("?", maxGlob), row[:maxGlob+1], false)
		matches(t, strings.Repeat("?", maxGlob), row[:maxGlob-1], false)
		matches(t, strings.Repeat("*?", maxGlob/2), row[:maxGlob/2], true)
		matches(t, strings.Repeat("*?", maxGlob/2), row[:maxGlob/2-1], false)
	})
}

func TestLongTexts(t *testing.T) {
	inTime(t, "Match and Span", func() {
		row := strings.Repeat("a", api.MaxMatch)
		matches(t, "*", row, true)
		matches(t, "a*a*a", row, true)
		matches(t, "*b*", row, false)
		matches(t, strings.Repeat("a*", 500)+"b*", row, false)
		matches(t, "*"+strings.Repeat("a", 99)+"b*", row, false)
		matches(t, "*b"+strings.Repeat("a", 99)+"*", row, false)
		spans(t, "b*", row+"b"+row, api.MaxMatch+1, found(api.MaxMatch))
		spans(t, "b*", row+"b"+row, api.MaxMatch, spanned{})
		spans(t, strings.Repeat("a", 99)+"b*", row, api.MaxMatch, spanned{})
		spans(t, strings.Repeat("a*", 500), row, api.MaxMatch-1, found(1))
	})
}
