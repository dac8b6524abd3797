package quote_test

import (
	"bytes"
	"fmt"
	"math"
	"strconv"
	"strings"
	"testing"
	"time"

	"cuecard/api"
	"cuecard/quote"
)

// The signatures are part of what is asked: a change of one must not build.
var (
	_ func(byte) bool                          = quote.Plain
	_ func(string, int) (byte, int, api.Errno) = quote.Escape
	_ func(byte) string                        = quote.Octal
	_ func([]byte) string                      = quote.Quote
	_ func(string) ([]byte, int, api.Errno)    = quote.Unquote
)

// The limit and the errors, by their numbers.
const (
	maxText    = 16777216
	outOfRange = 3
	noForm     = 4
	tooShort   = 5
)

const (
	letters = "ABCDEFGHIJKLMNOPQRSTUVWXYZabcdefghijklmnopqrstuvwxyz"
	figures = "0123456789"
	named   = letters + figures + "_"           // a name's bytes
	plain   = named + " !%&'()*+,-./:<=>?@^`|~" // all plain ones
)

// escaped: what Escape answers.
type escaped struct {
	c    byte
	next int
	e    api.Errno
}

// unquoted: what Unquote answers.
type unquoted struct {
	text string
	at   int
	e    api.Errno
}

func escapes(t *testing.T, s string, at int, want escaped) {
	t.Helper()
	c, next, e := quote.Escape(s, at)
	if got := (escaped{c, next, e}); got != want {
		t.Errorf("Escape(%.99q, %d): %v, wanted %v", s, at, got, want)
	}
}

func unquotes(t *testing.T, s string, want unquoted) {
	t.Helper()
	b, at, e := quote.Unquote(s)
	if got := (unquoted{string(b), at, e}); got != want {
		t.Errorf("Unquote(%.99q): %.99q, %d, %v, wanted %.99q, %d, %v", s, b, at, e, want.text, want.at, want.e)
	}
}

func quotes(t *testing.T, text, want string) {
	t.Helper()
	if got := quote.Quote([]byte(text)); got != want {
		t.Errorf("Quote(%q): %q, wanted %q", text, got, want)
	}
}

// one: a text of one byte.
func one(c int) string { return string([]byte{byte(c)}) }

// The document's words, taken as they stand: what is held against the package.

func wantEscape(s string, at int) escaped {
	if at < 0 || at >= len(s) || s[at] != '\\' {
		return escaped{e: outOfRange}
	}
	if at == len(s)-1 {
		return escaped{e: tooShort}
	}
	for n := min(3, len(s)-at-1); n > 0; n-- {
		if x, err := strconv.ParseUint(s[at+1:at+1+n], 8, 64); err == nil {
			return escaped{byte(x % 256), at + 1 + n, 0}
		}
	}
	if i := strings.IndexByte("ntr", s[at+1]); i >= 0 {
		return escaped{"\x0a\x09\x0d"[i], at + 2, 0}
	}
	return escaped{s[at+1], at + 2, 0}
}

func wantQuote(text string) string {
	s := `"`
	for i := range len(text) {
		if strings.IndexByte(plain, text[i]) >= 0 {
			s += text[i : i+1]
		} else {
			s += fmt.Sprintf(`\%03o`, text[i])
		}
	}
	return s + `"`
}

// free: which bytes no escape has, from the one behind the first quote on.
func free(s string) []bool {
	l := make([]bool, len(s))
	for at := 1; at < len(s); at++ {
		if s[at] != '\\' {
			l[at] = true
		} else if x := wantEscape(s, at); x.e == 0 {
			at = x.next - 1
		}
	}
	return l
}

func wantUnquote(s string) unquoted {
	if !strings.HasPrefix(s, `"`) {
		return unquoted{e: noForm}
	}
	is, end := free(s), 1
	for end < len(s) && !(is[end] && s[end] == '"') {
		end++
	}
	for at := 1; at < end; at++ {
		isName := at+1 < len(s) && strings.IndexByte(named, s[at+1]) >= 0
		if is[at] && (s[at] == '[' || s[at] == '$' && isName) {
			return unquoted{at: at, e: noForm}
		}
	}
	if end == len(s) {
		return unquoted{e: tooShort}
	}
	if end+1 != len(s) {
		return unquoted{at: end + 1, e: noForm}
	}
	var b []byte
	for at := 1; at < end; at++ {
		if is[at] {
			b = append(b, s[at])
			continue
		}
		x := wantEscape(s, at)
		b = append(b, x.c)
		at = x.next - 1
	}
	return unquoted{text: string(b)}
}

// rows: all texts of at most so many of some bytes.
func rows(of string, most int) []string {
	all := []string{""}
	for i := 0; len(all[i]) < most; i++ {
		for k := range len(of) {
			all = append(all, all[i]+of[k:k+1])
		}
	}
	return all
}

// chance: numbers that are the same in every run.
type chance uint32

func (c *chance) below(n int) int {
	*c = *c*1664525 + 1013904223
	return int(*c>>8) % n
}

// row: so many bytes, each one of some.
func (c *chance) row(of string, n int) string {
	b := make([]byte, n)
	for i := range b {
		b[i] = of[c.below(len(of))]
	}
	return string(b)
}

// inTime: it ends, and in less time than it would take to go through the whole for each byte.
func inTime(t *testing.T, what string, do func()) {
	t.Helper()
	done := make(chan bool)
	go func() {
		defer close(done)
		do()
	}()
	select {
	case <-done:
	case <-time.After(time.Minute):
		t.Fatal(what, "takes too long")
	}
}

// P11.1: Plain, Octal.

func TestPlain(t *testing.T) {
	n := 0
	for c := range 256 {
		want := strings.IndexByte(plain, byte(c)) >= 0
		if got := quote.Plain(byte(c)); got != want {
			t.Errorf("Plain(%d): %v, wanted %v", c, got, want)
		}
		if want != (c >= 32 && c <= 126 && !strings.ContainsRune("\x22\x23\x24\x3b\x5b\x5c\x5d\x7b\x7d", rune(c))) {
			t.Errorf("%d: the list of plain bytes isn't the document's", c)
		}
		if want {
			n++
		}
	}
	if n != 86 {
		t.Errorf("%d plain bytes, wanted 86", n)
	}
}

func TestOctal(t *testing.T) {
	for c, want := range map[byte]string{0: `\000`, 7: `\007`, 8: `\010`, 10: `\012`, '"': `\042`, '$': `\044`, 63: `\077`, 64: `\100`, 'A': `\101`, '{': `\173`, 127: `\177`, 128: `\200`, 191: `\277`, 192: `\300`, 255: `\377`} {
		if got := quote.Octal(c); got != want {
			t.Errorf("Octal(%d): %s, wanted %s", c, got, want)
		}
	}
	for c := range 256 {
		if got, want := quote.Octal(byte(c)), fmt.Sprintf(`\%03o`, c); got != want {
			t.Errorf("Octal(%d): %s, wanted %s", c, got, want)
		}
		escapes(t, quote.Octal(byte(c)), 0, escaped{byte(c), 4, 0})
		escapes(t, "7"+quote.Octal(byte(c))+"7", 1, escaped{byte(c), 5, 0})
	}
}

// P11.1: Escape.

func TestEscape(t *testing.T) {
	escapes(t, `\n`, 0, escaped{10, 2, 0})
	escapes(t, `\t`, 0, escaped{9, 2, 0})
	escapes(t, `\r`, 0, escaped{13, 2, 0})
	escapes(t, `\q`, 0, escaped{'q', 2, 0})
	escapes(t, `\N`, 0, escaped{'N', 2, 0})
	escapes(t, `\T`, 0, escaped{'T', 2, 0})
	escapes(t, `\R`, 0, escaped{'R', 2, 0})
	escapes(t, `\a`, 0, escaped{'a', 2, 0}) // not 7, nor b 8, nor x the beginning of a number
	escapes(t, `\b`, 0, escaped{'b', 2, 0})
	escapes(t, `\x41`, 0, escaped{'x', 2, 0})
	escapes(t, `\u0041`, 0, escaped{'u', 2, 0})
	escapes(t, `\\`, 0, escaped{'\\', 2, 0})
	escapes(t, `\\n`, 0, escaped{'\\', 2, 0})
	escapes(t, `\\n`, 1, escaped{10, 3, 0}) // the place alone counts, not what stands ahead
	escapes(t, `\"`, 0, escaped{'"', 2, 0})
	escapes(t, "\\\n", 0, escaped{10, 2, 0}) // a byte 10 itself
	escapes(t, "\\\x00", 0, escaped{0, 2, 0})
	escapes(t, "\\\xc3\xa4", 0, escaped{0xc3, 2, 0}) // bytes, not runes
	escapes(t, `x\75`, 1, escaped{61, 4, 0})
	escapes(t, `ab\ncd`, 2, escaped{10, 4, 0})
}

func TestEscapeOfDigits(t *testing.T) {
	escapes(t, `\0`, 0, escaped{0, 2, 0})
	escapes(t, `\7`, 0, escaped{7, 2, 0})
	escapes(t, `\8`, 0, escaped{'8', 2, 0}) // no digit to the base 8
	escapes(t, `\9`, 0, escaped{'9', 2, 0})
	escapes(t, `\811`, 0, escaped{'8', 2, 0})
	escapes(t, `\10`, 0, escaped{8, 3, 0})
	escapes(t, `\77`, 0, escaped{63, 3, 0})
	escapes(t, `\18`, 0, escaped{1, 2, 0})
	escapes(t, `\1x`, 0, escaped{1, 2, 0})
	escapes(t, `\1\2`, 0, escaped{1, 2, 0})
	escapes(t, `\1/`, 0, escaped{1, 2, 0}) // the byte ahead of 0
	escapes(t, `\1 1`, 0, escaped{1, 2, 0})
	escapes(t, `\128`, 0, escaped{10, 3, 0})
	escapes(t, `\12x`, 0, escaped{10, 3, 0})
	escapes(t, `\012`, 0, escaped{10, 4, 0})
	escapes(t, `\000`, 0, escaped{0, 4, 0})
	escapes(t, `\0000`, 0, escaped{0, 4, 0}) // three at most
	escapes(t, `\1234`, 0, escaped{'S', 4, 0})
	escapes(t, `\377`, 0, escaped{255, 4, 0})
	escapes(t, `\3777`, 0, escaped{255, 4, 0})
	escapes(t, `\400`, 0, escaped{0, 4, 0}) // modulo 256
	escapes(t, `\401`, 0, escaped{1, 4, 0})
	escapes(t, `\477`, 0, escaped{63, 4, 0})
	escapes(t, `\512`, 0, escaped{74, 4, 0})
	escapes(t, `\777`, 0, escaped{255, 4, 0})
	for x := range 512 {
		escapes(t, fmt.Sprintf(`\%03o`, x), 0, escaped{byte(x % 256), 4, 0})
		escapes(t, fmt.Sprintf(`\\%03o1`, x), 1, escaped{byte(x % 256), 5, 0})
	}
	for x := range 64 {
		escapes(t, fmt.Sprintf(`\%02o`, x), 0, escaped{byte(x), 3, 0})
		escapes(t, fmt.Sprintf(`\%02o9`, x), 0, escaped{byte(x), 3, 0})
	}
}

func TestEscapeOfEachByte(t *testing.T) {
	for c := range 256 {
		if t.Failed() {
			return
		}
		want := escaped{byte(c), 2, 0}
		switch {
		case c >= '0' && c <= '7':
			want.c = byte(c) - 48
		case c == 'n':
			want.c = 10
		case c == 't':
			want.c = 9
		case c == 'r':
			want.c = 13
		}
		escapes(t, `\`+one(c), 0, want)
		escapes(t, `\`+one(c)+"x", 0, want)
		for k := range 256 {
			s := "-" + `\` + one(c) + one(k) + "5"
			escapes(t, s, 1, wantEscape(s, 1))
			s = `\1` + one(c) + one(k)
			escapes(t, s, 0, wantEscape(s, 0))
		}
	}
}

func TestEscapeOfAPlaceWithout(t *testing.T) {
	for _, s := range []string{"", "a", "n", "12", `"`, "/", `\n`, `a\n`, `\\`, `\12`, `\`, "\xff\\"} {
		for _, at := range []int{math.MinInt, math.MinInt + 1, math.MinInt32, -len(s) - 1, -len(s), -2, -1, len(s), len(s) + 1, len(s) + 9, math.MaxInt32, 1 << 32, math.MaxInt - 1, math.MaxInt} {
			if at < 0 || at >= len(s) {
				escapes(t, s, at, escaped{e: outOfRange})
			}
		}
		for at := range len(s) {
			if s[at] != '\\' {
				escapes(t, s, at, escaped{e: outOfRange})
			}
		}
	}
	for c := range 256 {
		if c != '\\' {
			escapes(t, one(c)+"n", 0, escaped{e: outOfRange})
			escapes(t, one(c), 0, escaped{e: outOfRange})
			escapes(t, `\`+one(c)+"n", 1, escaped{e: outOfRange})
		}
	}
}

func TestEscapeOfTheLastByte(t *testing.T) {
	for _, ahead := range []string{"", "a", "n", `\`, `\\`, "12", `\1`, `"`, "\x00", strings.Repeat("x", 300)} {
		escapes(t, ahead+`\`, len(ahead), escaped{e: tooShort})
	}
}

func TestEscapeOfAllShortTexts(t *testing.T) {
	for _, s := range rows(`\0347n"`, 5) {
		if t.Failed() {
			return
		}
		for at := -1; at <= len(s); at++ {
			escapes(t, s, at, wantEscape(s, at))
		}
	}
}

// P11.2: Quote.

func TestQuote(t *testing.T) {
	quotes(t, "a\n$", `"a\012\044"`) // the chapter's example
	quotes(t, "", `""`)
	quotes(t, "ab c", `"ab c"`)
	quotes(t, "login:", `"login:"`)
	quotes(t, "me\n", `"me\012"`)
	quotes(t, "\x00\xff\n", `"\000\377\012"`)
	quotes(t, "$x[y]{z};#\\\"", `"\044x\133y\135\173z\175\073\043\134\042"`)
	quotes(t, "\t\r\n", `"\011\015\012"`)
	quotes(t, "\x1f \x7e\x7f\x80", `"\037 ~\177\200"`)
	quotes(t, "\x001", `"\0001"`)
	quotes(t, "\xc3\xa4", `"\303\244"`) // bytes, not runes
	quotes(t, "\xef\xbf\xbd\xff", `"\357\277\275\377"`)
	quotes(t, `\012`, `"\134012"`)
	quotes(t, `""`, `"\042\042"`)
	quotes(t, plain, `"`+plain+`"`)
	quotes(t, "\n\n\n", `"\012\012\012"`)
	for _, none := range [][]byte{nil, {}, []byte("abc")[:0]} {
		if s := quote.Quote(none); s != `""` {
			t.Errorf("Quote of nothing: %s", s)
		}
	}
}

func TestQuoteOfAllPairs(t *testing.T) {
	for a := range 256 {
		if t.Failed() {
			return
		}
		quotes(t, one(a), wantQuote(one(a)))
		for b := range 256 {
			quotes(t, one(a)+one(b), wantQuote(one(a)+one(b)))
		}
	}
}

// P11.3: Unquote.

func TestUnquote(t *testing.T) {
	for s, text := range map[string]string{
		`"\7x\1234"`:       "\x07xS4", // the chapter's example
		`""`:               "",
		`"a"`:              "a",
		`"ab c"`:           "ab c",
		`"a\012\044"`:      "a\n$",
		`"\n\t\r\q\""`:     "\n\t\rq\"",
		`"\400\18"`:        "\x00\x018",
		"\"{\n}\"":         "{\n}", // what isn't plain may stand there, too
		"\"#;]\t\r\x00\"":  "#;]\t\r\x00",
		"\"\xc3\xa4\xff\"": "\xc3\xa4\xff",
		`"\\"`:             `\`,
		`"\\\""`:           `\"`,
		`"\\\\"`:           `\\`,
		`"\""`:             `"`,
		`"\"a\""`:          `"a"`,
		`"\["`:             "[", // an escape has it
		`"\[a]"`:           "[a]",
		`"\$a"`:            "$a",
		`"\$\$a"`:          "$$a",
		`"\044a"`:          "$a", // an escape tells it
		`"\133"`:           "[",
		`"$"`:              "$", // no name's byte behind it
		`"$$"`:             "$$",
		`"$ $"`:            "$ $",
		`"$-a"`:            "$-a",
		`"${a}"`:           "${a}",
		`"$\a"`:            "$a", // a \ is what stands behind it
		`"$\141"`:          "$a",
		`"$\""`:            `$"`,
		"\"$\xc3\xa4\"":    "$\xc3\xa4", // no letter of A to Z, a to z
		`"\1\2\3"`:         "\x01\x02\x03",
		`"\12345"`:         "S45",
		`"\8\9"`:           "89",
		`"]"`:              "]",
	} {
		unquotes(t, s, unquoted{text: text})
	}
}

func TestUnquoteOfWhatDoesNotBegin(t *testing.T) {
	for _, s := range []string{"", "a", `a"`, `a"b"`, `'a'`, ` "a"`, `\"a"`, `[`, `$a`, `{a}`, `\`, "\x00", "a[", "\n\"\""} {
		unquotes(t, s, unquoted{e: noForm})
	}
	for c := range 256 {
		if c != '"' {
			unquotes(t, one(c), unquoted{e: noForm})
			unquotes(t, one(c)+`"`, unquoted{e: noForm})
			unquotes(t, one(c)+`""`, unquoted{e: noForm})
		}
	}
}

func TestUnquoteOfWhatEndsTooEarly(t *testing.T) {
	for _, s := range []string{`"`, `"a`, `"a\"`, `"a\`, `"\`, `"\"`, `"\\\`, `"\\\"`, `"\1`, `"\12`, `"\123`, `"\n`, `"$`, `"a$`, `"$$`, `"$\`, `"\[`, `"\$a`, `"]`, "\"\x00", `"abc def`} {
		unquotes(t, s, unquoted{e: tooShort})
	}
}

func TestUnquoteOfABracket(t *testing.T) {
	unquotes(t, `"["`, unquoted{at: 1, e: noForm})
	unquotes(t, `"a["`, unquoted{at: 2, e: noForm})
	unquotes(t, `"[a]"`, unquoted{at: 1, e: noForm})
	unquotes(t, `"\\["`, unquoted{at: 3, e: noForm}) // the escape has the \ ahead, not the [
	unquotes(t, `"\1["`, unquoted{at: 3, e: noForm})
	unquotes(t, `"\123["`, unquoted{at: 5, e: noForm})
	unquotes(t, `"\[["`, unquoted{at: 3, e: noForm})
	unquotes(t, `"$["`, unquoted{at: 2, e: noForm})
	unquotes(t, `"[[["`, unquoted{at: 1, e: noForm})
}

func TestUnquoteOfAVariable(t *testing.T) {
	unquotes(t, `"$a"`, unquoted{at: 1, e: noForm})
	unquotes(t, `"ab$c"`, unquoted{at: 3, e: noForm})
	unquotes(t, `"$_"`, unquoted{at: 1, e: noForm})
	unquotes(t, `"$0"`, unquoted{at: 1, e: noForm})
	unquotes(t, `"$$a"`, unquoted{at: 2, e: noForm})
	unquotes(t, `"$ $a"`, unquoted{at: 3, e: noForm})
	unquotes(t, `"\\$a"`, unquoted{at: 3, e: noForm})
	unquotes(t, `"\$$a"`, unquoted{at: 3, e: noForm})
	for c := range 256 {
		want := unquoted{text: "$" + one(c) + "x"}
		switch {
		case strings.IndexByte(named, byte(c)) >= 0:
			want = unquoted{at: 1, e: noForm}
		case c == '[', c == '$': // which has the x behind it
			want = unquoted{at: 2, e: noForm}
		case c == '"':
			want = unquoted{at: 3, e: noForm}
		case c == '\\':
			want.text = "$x"
		}
		unquotes(t, `"$`+one(c)+`x"`, want)
	}
}

func TestUnquoteOfWhatGoesOn(t *testing.T) {
	unquotes(t, `"a"b`, unquoted{at: 3, e: noForm})
	unquotes(t, `"" `, unquoted{at: 2, e: noForm})
	unquotes(t, `"""`, unquoted{at: 2, e: noForm})
	unquotes(t, `"""" `, unquoted{at: 2, e: noForm})
	unquotes(t, `"a""b"`, unquoted{at: 3, e: noForm})
	unquotes(t, "\"a\"\n", unquoted{at: 3, e: noForm})
	unquotes(t, `"\""x`, unquoted{at: 4, e: noForm})
	unquotes(t, `"\\"x`, unquoted{at: 4, e: noForm})
	unquotes(t, `"\\"\`, unquoted{at: 4, e: noForm})
	for c := range 256 {
		unquotes(t, `"a"`+one(c), unquoted{at: 3, e: noForm})
		unquotes(t, `""`+one(c)+`"`, unquoted{at: 2, e: noForm})
	}
}

// The first error from the front on is the one that is told; ErrShort only where there is no other.
func TestUnquoteTellsTheFirstError(t *testing.T) {
	unquotes(t, `"[`, unquoted{at: 1, e: noForm})
	unquotes(t, `"a[b`, unquoted{at: 2, e: noForm})
	unquotes(t, `"$a`, unquoted{at: 1, e: noForm})
	unquotes(t, `"[\`, unquoted{at: 1, e: noForm})
	unquotes(t, `"ab$c\`, unquoted{at: 3, e: noForm})
	unquotes(t, `"$a["`, unquoted{at: 1, e: noForm})
	unquotes(t, `"[$a"`, unquoted{at: 1, e: noForm})
	unquotes(t, `"$a"b`, unquoted{at: 1, e: noForm})
	unquotes(t, `"["]`, unquoted{at: 1, e: noForm})
	unquotes(t, `"a"[`, unquoted{at: 3, e: noForm})  // what stands behind the end isn't looked at
	unquotes(t, `"a"b[`, unquoted{at: 3, e: noForm}) // nor is what follows
	unquotes(t, `"$"a"`, unquoted{at: 3, e: noForm}) // the " behind the $ ends it
	unquotes(t, `a"[`, unquoted{e: noForm})
	unquotes(t, `["`, unquoted{e: noForm})
}

func TestUnquoteOfAllShortTexts(t *testing.T) {
	for _, s := range rows(`"\[$a1`, 7) {
		if t.Failed() {
			return
		}
		unquotes(t, s, wantUnquote(s))
	}
	for _, s := range rows(`"\[]${}_n8 `, 5) {
		if t.Failed() {
			return
		}
		unquotes(t, s, wantUnquote(s))
		unquotes(t, `"`+s+`"`, wantUnquote(`"`+s+`"`))
	}
}

func TestUnquoteOfAllPairs(t *testing.T) {
	for a := range 256 {
		if t.Failed() {
			return
		}
		for b := range 256 {
			for _, s := range []string{`"` + one(a) + one(b) + `"`, `"\` + one(a) + one(b) + `"`, `"` + one(a) + one(b)} {
				unquotes(t, s, wantUnquote(s))
			}
		}
	}
}

func TestUnquoteOfLongerTexts(t *testing.T) {
	for seed := range 4000 {
		if t.Failed() {
			return
		}
		c := chance(seed)
		of := `\\\\` + named + "\"$[]{} \n\x00\xff"
		if seed%2 == 0 {
			of = `\\\\\ntr01234567]{}#; ab-` // most of these are right
		}
		s := `"` + c.row(of, c.below(60)) + `"`
		unquotes(t, s, wantUnquote(s))
		unquotes(t, s[:len(s)-1], wantUnquote(s[:len(s)-1]))
	}
}

// P11.4: what is quoted is unquoted.

// holds: all that is promised of a text that is quoted.
func holds(t *testing.T, text string) {
	t.Helper()
	s := quote.Quote([]byte(text))
	b, at, e := quote.Unquote(s)
	if string(b) != text || at != 0 || e != 0 {
		t.Fatalf("%q quoted is %s, and that unquoted %q, %d, %v", text, s, b, at, e)
	}
	if len(s) < 2 || s[0] != '"' || s[len(s)-1] != '"' {
		t.Fatalf("%q quoted is %s: without quotes", text, s)
	}
	for i := 1; i < len(s)-1; i++ {
		if strings.IndexByte(plain+`\`, s[i]) < 0 {
			t.Fatalf("%q quoted is %s: the byte at %d", text, s, i)
		}
	}
}

func TestQuotedIsUnquoted(t *testing.T) {
	all := ""
	for a := range 256 {
		all += one(a)
		for b := range 256 {
			holds(t, one(a)+one(b))
		}
	}
	holds(t, "")
	holds(t, all)
	holds(t, all+all)
	for _, text := range rows("\"\\[$an07\x00", 5) {
		holds(t, text)
	}
	for seed := range 2000 {
		c := chance(seed)
		holds(t, c.row(all, c.below(200)))
		holds(t, c.row("\\\\01234567\"$[\x00\x07", c.below(60)))
	}
}

// What has just been quoted is a pair of quotes and nothing else: quoted again, it is unquoted again.
func TestQuotedAgain(t *testing.T) {
	text := "a\"\\$x[\n\x00\xff"
	for range 6 {
		holds(t, text)
		text = quote.Quote([]byte(text))
	}
}

// Rules 4 and 7: what is handed in is neither changed nor kept; what is answered is new memory.

func TestQuoteLooksAtTheBytesAlone(t *testing.T) {
	whole := []byte("<<a\n$>>\"]")
	b := whole[2:5]
	s := quote.Quote(b)
	if s != `"a\012\044"` || string(whole) != "<<a\n$>>\"]" {
		t.Errorf("%s of %q", s, whole)
	}
	copy(whole, "?????????")
	if s != `"a\012\044"` {
		t.Errorf("behind a change of the bytes: %s", s)
	}
	if s = quote.Quote(b); s != `"???"` {
		t.Errorf("of the bytes as they are now: %s", s)
	}
}

func TestUnquoteAnswersNewMemory(t *testing.T) {
	for s, want := range map[string]string{`"abc"`: "abc", `"a\012"`: "a\n", `"x"`: "x", `"\n"`: "\n", `"` + strings.Repeat("y", 100) + `"`: strings.Repeat("y", 100)} {
		spoiled, _, _ := quote.Unquote(s)
		other, _, _ := quote.Unquote(s)
		spoiled = spoiled[:cap(spoiled)]
		for i := range spoiled {
			spoiled[i] = '!'
		}
		if string(other) != want {
			t.Errorf("Unquote(%q), another answer: %q", s, other)
		}
		unquotes(t, s, unquoted{text: want})
	}
}

func TestTheSameAgain(t *testing.T) {
	for range 3 {
		escapes(t, `\12`, 0, escaped{10, 3, 0})
		escapes(t, `\12`, 1, escaped{e: outOfRange})
		quotes(t, "a\n", `"a\012"`)
		unquotes(t, `"a\012"`, unquoted{text: "a\n"})
		unquotes(t, `"a`, unquoted{e: tooShort})
	}
}

// P1: every call ends, in no more time than it takes to go through the whole once, of texts as long as a script may be, and longer ones.
func TestLongTexts(t *testing.T) {
	inTime(t, "Quote and Unquote", func() {
		for _, c := range []struct{ of, told string }{{"a", "a"}, {"\n", `\012`}, {"\xffa", `\377a`}} {
			text := bytes.Repeat([]byte(c.of), maxText/len(c.of))
			s := quote.Quote(text)
			if s != `"`+strings.Repeat(c.told, maxText/len(c.of))+`"` {
				t.Errorf("Quote of %q, again and again", c.of)
			}
			b, at, e := quote.Unquote(s)
			if !bytes.Equal(b, text) || at != 0 || e != 0 {
				t.Errorf("Unquote of %s, again and again: %d bytes, %d, %v", c.told, len(b), at, e)
			}
			unquotes(t, s[:len(s)-1], unquoted{e: tooShort})
			unquotes(t, s+"x", unquoted{at: len(s), e: noForm})
			unquotes(t, s[:len(s)-1]+`["`, unquoted{at: len(s) - 1, e: noForm})
		}
	})
	inTime(t, "Escape", func() {
		s := strings.Repeat("1", maxText) + `\` + strings.Repeat("1", maxText)
		for range 100000 {
			if t.Failed() {
				return
			}
			escapes(t, s, maxText, escaped{'I', maxText + 4, 0})
		}
	})
}
