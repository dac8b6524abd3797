package tcl_test

import (
	"fmt"
	"math"
	"slices"
	"strconv"
	"strings"
	"testing"
	"time"

	"cuecard/api"
	"cuecard/tcl"
)

// The signatures are part of what is asked: a change of one must not build.
var (
	_ func(string) ([]api.Command, int, api.Errno) = tcl.Parse
	_ func([]api.Command) (string, api.Errno)      = tcl.Print
	_ func(a, b []api.Command) bool                = tcl.Same
)

// The limits and the errors, by their numbers.
const (
	maxText  = 16777216
	maxName  = 64
	maxDepth = 64
	wrongArg = 2
	noForm   = 4
	tooShort = 5
	tooLong  = 6
	tooDeep  = 7
)

// The kinds of words, by their numbers.
const (
	bare   = 0
	quoted = 1
	braced = 2
)

const (
	letters = "ABCDEFGHIJKLMNOPQRSTUVWXYZabcdefghijklmnopqrstuvwxyz"
	named   = letters + "0123456789_"           // a name's bytes
	plain   = named + " !%&'()*+,-./:<=>?@^`|~" // all plain ones
)

// What commands are made of here.

func text(s string) api.Part     { return api.Part{S: s} }
func variable(s string) api.Part { return api.Part{Var: true, S: s} }

func word(at, kind int, l ...api.Part) api.Word {
	return api.Word{At: at, Kind: kind, Parts: l}
}

// says: a word of one text.
func says(at, kind int, s string) api.Word { return word(at, kind, text(s)) }

func command(at int, l ...api.Word) api.Command { return api.Command{At: at, Words: l} }

// commands of words at no places, one for each list.
func commands(l ...[]api.Word) []api.Command {
	var all []api.Command
	for _, words := range l {
		all = append(all, command(0, words...))
	}
	return all
}

// alone: one command of such words.
func alone(l ...api.Word) []api.Command { return commands(l) }

// told: commands, so that they can be held against each other, and read.
func told(l []api.Command) string {
	var s strings.Builder
	for _, c := range l {
		fmt.Fprintf(&s, "%d(", c.At)
		for _, w := range c.Words {
			fmt.Fprintf(&s, " %d/%d", w.At, w.Kind)
			for _, p := range w.Parts {
				fmt.Fprintf(&s, ":%v%q", p.Var, p.S)
			}
		}
		s.WriteString(" ) ")
	}
	return s.String()
}

// placeless: a deep copy, without places.
func placeless(l []api.Command) []api.Command {
	var all []api.Command
	for _, c := range l {
		var words []api.Word
		for _, w := range c.Words {
			words = append(words, word(0, w.Kind, slices.Clone(w.Parts)...))
		}
		all = append(all, command(0, words...))
	}
	return all
}

// parsed: what Parse answers.
type parsed struct {
	l  []api.Command
	at int
	e  api.Errno
}

func parses(t *testing.T, s string, want parsed) {
	t.Helper()
	l, at, e := tcl.Parse(s)
	if at != want.at || e != want.e || told(l) != told(want.l) {
		t.Errorf("Parse(%.99q): %.999s, %d, %v, wanted %.999s, %d, %v", s, told(l), at, e, told(want.l), want.at, want.e)
	}
}

// right: the text is parsed as these commands.
func right(t *testing.T, s string, l ...api.Command) {
	t.Helper()
	parses(t, s, parsed{l: l})
}

// wrong: the text is wrong at a place.
func wrong(t *testing.T, s string, at int, e api.Errno) {
	t.Helper()
	parses(t, s, parsed{at: at, e: e})
}

func prints(t *testing.T, l []api.Command, want string, wantE api.Errno) {
	t.Helper()
	if got, e := tcl.Print(l); got != want || e != wantE {
		t.Errorf("Print(%.999s): %.99q, %v, wanted %.99q, %v", told(l), got, e, want, wantE)
	}
}

func refused(t *testing.T, l ...api.Word) {
	t.Helper()
	prints(t, alone(l...), "", wrongArg)
}

// one: a text of one byte.
func one(c int) string { return string([]byte{byte(c)}) }

// The document's words, taken as they stand: what is held against the package.

// thing: a byte that a text tells, from a place on up to another one; by an escape or by itself.
type thing struct {
	at, behind int
	c          byte
	escaped    bool
}

// things are those of a text from a place on; lone is the place of a backslash at its end, or -1.
func things(s string, at int) (l []thing, lone int) {
	for at < len(s) {
		if s[at] != '\\' {
			l = append(l, thing{at, at + 1, s[at], false})
			at++
			continue
		}
		if at == len(s)-1 {
			return l, at
		}
		x := thing{at, at + 2, s[at+1], true}
		if i := strings.IndexByte("ntr", s[at+1]); i >= 0 {
			x.c = "\x0a\x09\x0d"[i]
		}
		for n := min(3, len(s)-at-1); n > 0; n-- {
			if v, err := strconv.ParseUint(s[at+1:at+1+n], 8, 64); err == nil {
				x.c, x.behind = byte(v%256), at+1+n
				break
			}
		}
		l = append(l, x)
		at = x.behind
	}
	return l, -1
}

// nameAt: the longest row of name's bytes at a place.
func nameAt(s string, at int) string {
	n := 0
	for at+n < len(s) && strings.IndexByte(named, s[at+n]) >= 0 {
		n++
	}
	return s[at : at+n]
}

// wantWord: a quoted or bare word's parts from a place on, and the place of what ends it; ErrShort with the place of a lone backslash, or the text's end.
func wantWord(s string, at int, ends string) ([]api.Part, int, api.Errno) {
	l, lone := things(s, at)
	end := len(l)
	for i := len(l) - 1; i >= 0; i-- {
		if !l[i].escaped && strings.IndexByte(ends, l[i].c) >= 0 {
			end = i
		}
	}
	var parts []api.Part
	row := ""
	for i := 0; i < end; i++ {
		x := l[i]
		name := ""
		if !x.escaped && x.c == '$' {
			name = nameAt(s, x.behind)
		}
		switch {
		case !x.escaped && x.c == '[':
			return nil, x.at, noForm
		case len(name) > maxName:
			return nil, x.at, tooLong
		case name != "":
			if row != "" {
				parts = append(parts, text(row))
			}
			row = ""
			parts = append(parts, variable(name))
			i += len(name)
		default:
			row += string([]byte{x.c})
		}
	}
	if end == len(l) && lone >= 0 {
		return nil, lone, tooShort
	}
	if row != "" {
		parts = append(parts, text(row))
	}
	if end == len(l) {
		return parts, len(s), 0
	}
	return parts, l[end].at, 0
}

// wantBraces: the place behind the braces that begin at a place, that one so deep; -1 and the place of a { that is too deep, or the text's length.
func wantBraces(s string, at, deep int) (int, int) {
	if deep > maxDepth {
		return -1, at
	}
	at++
	for at < len(s) {
		switch s[at] {
		case '\\':
			at += 2
		case '}':
			return at + 1, 0
		case '{':
			behind, fault := wantBraces(s, at, deep+1)
			if behind < 0 {
				return -1, fault
			}
			at = behind
		default:
			at++
		}
	}
	return -1, len(s)
}

// wantParse: as chapter 12 says.
func wantParse(s string) parsed {
	if len(s) > maxText {
		return parsed{e: tooLong}
	}
	var l []api.Command
	fresh := true // no command is begun
	for at := 0; at < len(s); {
		c := s[at]
		if c == 9 || c == 32 || c == 10 || c == 59 {
			fresh = fresh || c == 10 || c == 59
			at++
			continue
		}
		if fresh && c == '#' {
			for at < len(s) && s[at] != 10 {
				at++
			}
			continue
		}
		if fresh {
			l = append(l, command(at))
			fresh = false
		}
		w := word(at, bare)
		behind := 0
		var e api.Errno
		switch c {
		case '{':
			w.Kind = braced
			var fault int
			behind, fault = wantBraces(s, at, 1)
			if behind < 0 && fault == len(s) {
				return parsed{at: at, e: tooShort}
			}
			if behind < 0 {
				return parsed{at: fault, e: tooDeep}
			}
			if behind > at+2 {
				w.Parts = []api.Part{text(s[at+1 : behind-1])}
			}
		case '"':
			w.Kind = quoted
			w.Parts, behind, e = wantWord(s, at+1, `"`)
			if e == tooShort || e == 0 && behind == len(s) {
				return parsed{at: at, e: tooShort}
			}
			if e == 0 {
				behind++
			}
		default:
			w.Parts, behind, e = wantWord(s, at, "\t\n ;")
		}
		if e != 0 {
			return parsed{at: behind, e: e}
		}
		if behind < len(s) && strings.IndexByte("\t\n ;", s[behind]) < 0 {
			return parsed{at: behind, e: noForm}
		}
		last := &l[len(l)-1]
		last.Words = append(last.Words, w)
		at = behind
	}
	return parsed{l: l}
}

// wantRight: whether a word is as Parse tells it.
func wantRight(w api.Word) bool {
	if w.Kind == braced && len(w.Parts) == 1 {
		x := wantParse("{" + w.Parts[0].S + "}")
		want := told(alone(says(0, braced, w.Parts[0].S)))
		return x.e == 0 && !w.Parts[0].Var && w.Parts[0].S != "" && told(x.l) == want
	}
	if w.Kind == braced {
		return len(w.Parts) == 0
	}
	for i, p := range w.Parts {
		if p.S == "" || !p.Var && i > 0 && !w.Parts[i-1].Var {
			return false
		}
		if p.Var && (len(p.S) > maxName || nameAt(p.S, 0) != p.S) {
			return false
		}
	}
	return w.Kind == quoted || w.Kind == bare && len(w.Parts) > 0
}

// wantPrint: as chapter 12 says.
func wantPrint(l []api.Command) (string, api.Errno) {
	s := ""
	for _, c := range l {
		if len(c.Words) == 0 {
			return "", wrongArg
		}
		var words []string
		for _, w := range c.Words {
			if !wantRight(w) {
				return "", wrongArg
			}
			words = append(words, wantPrinted(w))
		}
		s += strings.Join(words, " ") + "\n"
	}
	if len(s) > maxText {
		return "", tooLong
	}
	return s, 0
}

func wantPrinted(w api.Word) string {
	if w.Kind == braced {
		return "{" + strings.Join(texts(w), "") + "}"
	}
	s := ""
	for i, p := range w.Parts {
		if p.Var {
			s += "$" + p.S
			continue
		}
		for k := range len(p.S) {
			c := p.S[k : k+1]
			goesOn := k == 0 && i > 0 && w.Parts[i-1].Var && strings.Contains(named, c)
			if strings.Contains(plain, c) && !goesOn && !(w.Kind == bare && c == " ") {
				s += c
			} else {
				s += fmt.Sprintf(`\%03o`, c[0])
			}
		}
	}
	if w.Kind == quoted {
		return `"` + s + `"`
	}
	return s
}

func texts(w api.Word) []string {
	var l []string
	for _, p := range w.Parts {
		l = append(l, p.S)
	}
	return l
}

// eachRow calls do with all texts of at most so many of some bytes.
func eachRow(of string, most int, do func(string)) {
	var grow func(string)
	grow = func(s string) {
		do(s)
		for k := 0; len(s) < most && k < len(of); k++ {
			grow(s + of[k:k+1])
		}
	}
	grow("")
}

// chance: numbers that are the same in every run.
type chance uint32

func (c *chance) below(n int) int {
	*c = *c*1664525 + 1013904223
	return int(*c>>8) % n
}

// row: so many bytes, each one of some.
func (c *chance) row(of string, n int) string {
	b := make([]byte, n)
	for i := range b {
		b[i] = of[c.below(len(of))]
	}
	return string(b)
}

// inTime: it ends, and in less time than it would take to go through the whole for each byte.
func inTime(t *testing.T, what string, do func()) {
	t.Helper()
	done := make(chan bool)
	go func() {
		defer close(done)
		do()
	}()
	select {
	case <-done:
	case <-time.After(time.Minute):
		t.Fatal(what, "takes too long")
	}
}

// P12.1: what is right.

func TestParse(t *testing.T) {
	right(t, `send "a\n$x" ; # no`, command(0, says(0, bare, "send"), word(5, quoted, text("a\n"), variable("x")))) // the chapter's example
	right(t, "")
	right(t, "a", command(0, says(0, bare, "a")))
	right(t, "a b", command(0, says(0, bare, "a"), says(2, bare, "b")))
	right(t, "a \t b", command(0, says(0, bare, "a"), says(4, bare, "b")))
	right(t, " a ", command(1, says(1, bare, "a")))
	right(t, "a\nb", command(0, says(0, bare, "a")), command(2, says(2, bare, "b")))
	right(t, "a;b", command(0, says(0, bare, "a")), command(2, says(2, bare, "b")))
	right(t, "a b \t;\t c", command(0, says(0, bare, "a"), says(2, bare, "b")), command(8, says(8, bare, "c")))
	right(t, ";;\n\n;a;;\n;b;", command(5, says(5, bare, "a")), command(10, says(10, bare, "b")))
	right(t, "a \nb", command(0, says(0, bare, "a")), command(3, says(3, bare, "b")))
	right(t, `{a} "b" c`, command(0, says(0, braced, "a"), says(4, quoted, "b"), says(8, bare, "c")))
	right(t, "{a};\"b\"\nc", command(0, says(0, braced, "a")), command(4, says(4, quoted, "b")), command(8, says(8, bare, "c")))
	right(t, "{a}\t\"b\"\t", command(0, says(0, braced, "a"), says(4, quoted, "b")))
	right(t, `expect {-exact "a" {send b} eof}`, command(0, says(0, bare, "expect"), says(7, braced, `-exact "a" {send b} eof`)))
}

// What stands between commands tells nothing.
func TestParseOfNoCommand(t *testing.T) {
	for _, s := range []string{" ", "\t", "\n", ";", " \t\n;", "#", "# a", "#a;b\"{[$x\\", "#\n", "#a\n", "#\n#\n;#", " # ; [", strings.Repeat(" ;\n\t", 99)} {
		right(t, s)
	}
}

// Between commands only a # begins a remark, and only a byte 10 ends it.
func TestParseOfRemarks(t *testing.T) {
	right(t, "#a\nb", command(3, says(3, bare, "b")))
	right(t, "#a;b\nc", command(5, says(5, bare, "c")))
	right(t, "#a\\\nb", command(4, says(4, bare, "b"))) // no escape in it
	right(t, "# {\nb", command(4, says(4, bare, "b")))
	right(t, "#\r\x00\nb", command(4, says(4, bare, "b")))
	right(t, "a;#b", command(0, says(0, bare, "a")))
	right(t, "a; \t# b\n#c\nd", command(0, says(0, bare, "a")), command(11, says(11, bare, "d")))
	right(t, "a\n#b\nc", command(0, says(0, bare, "a")), command(5, says(5, bare, "c")))
	right(t, "a #b", command(0, says(0, bare, "a"), says(2, bare, "#b")))
	right(t, "a # b;#c", command(0, says(0, bare, "a"), says(2, bare, "#"), says(4, bare, "b")))
	right(t, "a#b", command(0, says(0, bare, "a#b")))
	right(t, "\"a\" #b", command(0, says(0, quoted, "a"), says(4, bare, "#b")))
	right(t, `\#a`, command(0, says(0, bare, "#a")))
	right(t, `"#a"`, command(0, says(0, quoted, "#a")))
	right(t, "{#a\nb}", command(0, says(0, braced, "#a\nb")))
	wrong(t, "#[\n[", 3, noForm)
}

func TestParseOfBraces(t *testing.T) {
	for s, inside := range map[string]string{
		"{a}":             "a",
		"{ a }":           " a ",
		"{{}}":            "{}",
		"{a{b}c}":         "a{b}c",
		"{{a}{b}}":        "{a}{b}",
		"{{{}}{}}":        "{{}}{}",
		`{\}}`:            `\}`, // passed over, and left as they stand
		`{\{}`:            `\{`,
		`{\\}`:            `\\`,
		`{\\\}}`:          `\\\}`,
		`{a\{b{\}}c}`:     `a\{b{\}}c`,
		`{\123}`:          `\123`, // the one byte behind it alone
		`{\n}`:            `\n`,
		`{"}`:             `"`,
		`{"a}`:            `"a`,
		"{$a [b] ; #c\n}": "$a [b] ; #c\n",
		"{\x00\xff\xc3}":  "\x00\xff\xc3",
		"{$}":             "$",
	} {
		right(t, s, command(0, says(0, braced, inside)))
		right(t, "a "+s+"\t;", command(0, says(0, bare, "a"), says(2, braced, inside)))
	}
	right(t, "{}", command(0, word(0, braced)))
	right(t, "{} {}", command(0, word(0, braced), word(3, braced)))
	right(t, `{\12}`, command(0, says(0, braced, `\12`)))
	right(t, `{\1}`, command(0, says(0, braced, `\1`))) // the digit is passed over, not the }
}

func TestParseOfDepth(t *testing.T) {
	for n := 1; n <= maxDepth; n++ {
		inside := strings.Repeat("{", n-1) + strings.Repeat("}", n-1)
		w := says(0, braced, inside)
		if n == 1 {
			w = word(0, braced)
		}
		right(t, "{"+inside+"}", command(0, w))
	}
	row := strings.Repeat("{", maxDepth) + strings.Repeat("}", maxDepth)
	wrong(t, "{"+row+"}", 64, tooDeep)
	wrong(t, strings.Repeat("{", 65), 64, tooDeep)
	wrong(t, strings.Repeat("{", 64), 0, tooShort)
	wrong(t, strings.Repeat("{", 66)+"[", 64, tooDeep)
	wrong(t, "ab "+strings.Repeat("{", 65), 67, tooDeep)
	wrong(t, "{{}{}"+strings.Repeat("{", 64), 68, tooDeep) // one back and one deeper again
	s := "{" + strings.Repeat("{}", 999) + "}"
	right(t, s, command(0, says(0, braced, s[1:len(s)-1])))
	s = "{" + strings.Repeat(`\{`, 999) + "}"
	right(t, s, command(0, says(0, braced, s[1:len(s)-1])))
	right(t, row+" "+row, command(0, says(0, braced, row[1:127]), says(129, braced, row[1:127]))) // each word by itself
	right(t, strings.Repeat("a{", 99), command(0, says(0, bare, strings.Repeat("a{", 99))))
}

func TestParseOfQuotes(t *testing.T) {
	right(t, `""`, command(0, word(0, quoted)))
	right(t, `"" ""`, command(0, word(0, quoted), word(3, quoted)))
	for s, inside := range map[string]string{
		`"a"`:              "a",
		`" a b "`:          " a b ",
		"\"a\tb;c\nd\"":    "a\tb;c\nd",
		`"{"`:              "{",
		`"}#]"`:            "}#]",
		`"a\n\t\r\q\012b"`: "a\n\t\rq\nb",
		`"\"a\""`:          `"a"`,
		`"\\"`:             `\`,
		`"\\\""`:           `\"`,
		`"\[a\]"`:          "[a]",
		`"\$a"`:            "$a",
		`"\044a"`:          "$a",
		`"\133"`:           "[",
		`"\042"`:           `"`,
		`"\1234"`:          "S4",
		`"\777\400"`:       "\xff\x00",
		`"$"`:              "$",
		`"$$"`:             "$$",
		`"$-a"`:            "$-a",
		`"$\a"`:            "$a",
		`"${a}"`:           "${a}",
		"\"$\xc3\xa4\"":    "$\xc3\xa4", // no letter of A to Z, a to z
		"\"\x00\xff\xc3\"": "\x00\xff\xc3",
		"\"\xef\xbf\xbd\"": "\xef\xbf\xbd",
		"\"\\\xc3\xa4\"":   "\xc3\xa4",
	} {
		right(t, s, command(0, says(0, quoted, inside)))
		right(t, "a "+s+";", command(0, says(0, bare, "a"), says(2, quoted, inside)))
	}
}

func TestParseOfBareWords(t *testing.T) {
	for s, inside := range map[string]string{
		"a}b\"c":       "a}b\"c",
		"}":            "}",
		"]":            "]",
		"a{b":          "a{b",
		"a{}":          "a{}",
		`a""`:          `a""`,
		`a\ b`:         "a b",
		"a\\\tb":       "a\tb",
		"a\\;b":        "a;b",
		"a\\\nb":       "a\nb", // no line goes on here: an escape tells its byte
		`a\nb`:         "a\nb",
		`\ `:           " ",
		`\{`:           "{",
		`\"a\"`:        `"a"`,
		`\\`:           `\`,
		`\\\ `:         `\ `,
		`\[a\]`:        "[a]",
		`\$a`:          "$a",
		`\040`:         " ",
		`\73a`:         ";a",
		"$":            "$",
		"a$":           "a$",
		"$$":           "$$",
		"$-":           "$-",
		`$\a`:          "$a",
		`$"`:           `$"`,
		"$\xc3\xa4":    "$\xc3\xa4",
		"\r":           "\r", // neither a blank nor an end
		"a\rb":         "a\rb",
		"\x00\x0b":     "\x00\x0b",
		"\xff\xc3\xa4": "\xff\xc3\xa4",
		"\xc2\xa0":     "\xc2\xa0",
		"-exact":       "-exact",
		"0":            "0",
	} {
		right(t, s, command(0, says(0, bare, inside)))
		right(t, "a "+s+"\tb", command(0, says(0, bare, "a"), says(2, bare, inside), says(len(s)+3, bare, "b")))
		right(t, s+";"+s+"\n", command(0, says(0, bare, inside)), command(len(s)+1, says(len(s)+1, bare, inside)))
	}
}

func TestParseOfVariables(t *testing.T) {
	for _, around := range []string{"", `"`} {
		at := func(s string, l ...api.Part) {
			t.Helper()
			kind := bare
			if around != "" {
				kind = quoted
			}
			right(t, around+s+around, command(0, word(0, kind, l...)))
			right(t, "a "+around+s+around, command(0, says(0, bare, "a"), word(2, kind, l...)))
		}
		at("$x", variable("x"))
		at("$_", variable("_"))
		at("$0", variable("0"))
		at("a$x", text("a"), variable("x"))
		at("$x-", variable("x"), text("-"))
		at("a$x-$y_1z$", text("a"), variable("x"), text("-"), variable("y_1z"), text("$"))
		at("$x$y", variable("x"), variable("y"))
		at("$$x", text("$"), variable("x"))
		at("$$$x$", text("$$"), variable("x"), text("$"))
		at(`\$$x`, text("$"), variable("x"))
		at(`\\$x`, text(`\`), variable("x"))
		at(`$x\171`, variable("x"), text("y")) // an escape is no name's byte
		at(`$x\y`, variable("x"), text("y"))
		at("$x{y}", variable("x"), text("{y}"))
		at("$x]#", variable("x"), text("]#"))
		at("$x\xc3\xa4", variable("x"), text("\xc3\xa4"))
		at("$x\xff$y", variable("x"), text("\xff"), variable("y"))
		at("a$x\\n\\t$y", text("a"), variable("x"), text("\n\t"), variable("y"))
		at("$"+named[:60], variable(named[:60]))
		at("$"+named[3:], variable(named[3:]))
		at("$"+strings.Repeat("n", 64), variable(strings.Repeat("n", 64)))
		at("$"+strings.Repeat("n", 64)+"-n", variable(strings.Repeat("n", 64)), text("-n"))
	}
	right(t, "$x $y;$z", command(0, word(0, bare, variable("x")), word(3, bare, variable("y"))), command(6, word(6, bare, variable("z"))))
}

// Each byte behind a $, and each one alone.
func TestParseOfEachByte(t *testing.T) {
	for c := range 256 {
		isName := strings.IndexByte(named, byte(c)) >= 0
		if isName {
			right(t, `"$`+one(c)+`"`, command(0, word(0, quoted, variable(one(c)))))
			right(t, "$"+one(c), command(0, word(0, bare, variable(one(c)))))
			right(t, "$x"+one(c)+"-", command(0, word(0, bare, variable("x"+one(c)), text("-"))))
		}
		for _, s := range []string{one(c), one(c) + "a", "a" + one(c) + "b", `"` + one(c) + `"`, `\` + one(c), `"\` + one(c) + `"`, "{" + one(c) + "}", `{\` + one(c) + "}", "$" + one(c), `"$` + one(c) + `"`, "$x" + one(c), "{}" + one(c), `""` + one(c) + "a", ";" + one(c) + "a;b", "a;" + one(c) + "\nb"} {
			parses(t, s, wantParse(s))
		}
	}
}

// P12.1: what is wrong.

func TestParseOfWhatEndsTooEarly(t *testing.T) {
	wrong(t, "{a", 0, tooShort) // the chapter's example
	for _, s := range []string{"{", "{a", "{{}", "{{a}", `{a\}`, `{\`, `{\}`, `{\\\}`, "{a\n", "{[", `{"`, `"`, `"a`, `"a\"`, `"a\`, `"\`, `"\\\`, `"\1`, `"$`, `"$x`, `"a b;`, "\"\n", `"{}`} {
		wrong(t, s, 0, tooShort)
		wrong(t, "a "+s, 2, tooShort)
		wrong(t, "#\na;\t{} \"\" "+s, 11, tooShort)
	}
	wrong(t, `a\`, 1, tooShort)
	wrong(t, `\`, 0, tooShort)
	wrong(t, `\\\`, 2, tooShort)
	wrong(t, `a b\`, 3, tooShort)
	wrong(t, `a \`, 2, tooShort)
	wrong(t, `$x\`, 2, tooShort)
	wrong(t, `$\`, 1, tooShort)
	wrong(t, `a;b c$\`, 6, tooShort)
	wrong(t, `\1\`, 2, tooShort)
}

func TestParseOfABracket(t *testing.T) {
	wrong(t, "[", 0, noForm)
	wrong(t, "a[", 1, noForm)
	wrong(t, "a [b]", 2, noForm)
	wrong(t, "$[", 1, noForm)
	wrong(t, "$x[0]", 2, noForm)
	wrong(t, `\\[`, 2, noForm)
	wrong(t, `\1[`, 2, noForm)
	wrong(t, `\[[`, 2, noForm)
	wrong(t, `"["`, 1, noForm)
	wrong(t, `"a["`, 2, noForm)
	wrong(t, `"\\["`, 3, noForm)
	wrong(t, `"$x[0]"`, 3, noForm)
	wrong(t, `a;b "c d[`, 8, noForm)
	wrong(t, "a[[", 1, noForm)
}

func TestParseOfALongName(t *testing.T) {
	for _, n := range []int{65, 66, 100, 999, 65536} {
		s := "$" + strings.Repeat("n", n)
		wrong(t, s, 0, tooLong)
		wrong(t, "x"+s, 1, tooLong)
		wrong(t, "a;"+s+";b", 2, tooLong)
		wrong(t, `"`+s+`"`, 1, tooLong)
		wrong(t, `"`+s, 1, tooLong)
		wrong(t, s+"[", 0, tooLong)
		wrong(t, `"`+s+`\`, 1, tooLong)
		wrong(t, s+`\`, 0, tooLong)
		wrong(t, "$"+s, 1, tooLong)
		right(t, `\`+s, command(0, says(0, bare, s)))
		right(t, "{"+s+"}", command(0, says(0, braced, s)))
		right(t, "#"+s)
	}
}

func TestParseOfWhatStandsBehindAWord(t *testing.T) {
	wrong(t, `"a"b`, 3, noForm) // the chapter's example
	for c := range 256 {
		for _, s := range []string{"{a}", "{}", "{{}}", `""`, `"a"`, `"\""`, `"$x"`, `a {\}}`} {
			if strings.IndexByte("\t\n ;", byte(c)) < 0 {
				wrong(t, s+one(c), len(s), noForm)
				wrong(t, s+one(c)+" b", len(s), noForm)
			} else {
				parses(t, s+one(c)+"b", wantParse(s+one(c)+"b"))
				if _, _, e := tcl.Parse(s + one(c) + "b"); e != 0 {
					t.Errorf("%q: %v", s+one(c)+"b", e)
				}
			}
		}
	}
}

// The first error from the front on is the one that is told; ErrShort only where there is no other ahead of the end.
func TestParseTellsTheFirstError(t *testing.T) {
	long := "$" + strings.Repeat("n", 65)
	deep := strings.Repeat("{", 65)
	wrong(t, `"[`, 1, noForm)
	wrong(t, `"a[\`, 2, noForm)
	wrong(t, `[\`, 0, noForm)
	wrong(t, `a[b\`, 1, noForm)
	wrong(t, `"`+long+"[", 1, tooLong)
	wrong(t, `"[`+long, 1, noForm)
	wrong(t, "["+long, 0, noForm)
	wrong(t, `"a"b[`, 3, noForm)
	wrong(t, `"a"[`, 3, noForm)
	wrong(t, `{}\`, 2, noForm)
	wrong(t, `{a}b\`, 3, noForm)
	wrong(t, "{a {b}"+deep, 69, tooDeep)
	wrong(t, deep+" [", 64, tooDeep)
	wrong(t, "[ "+deep, 0, noForm)
	wrong(t, "{a", 0, tooShort)
	wrong(t, "{a [ "+long, 0, tooShort) // what is in braces isn't looked at otherwise
	wrong(t, "a [;"+long, 2, noForm)
	wrong(t, "a "+long+";[", 2, tooLong)
	wrong(t, "a {}b;[", 4, noForm)
	wrong(t, "a\n{}\nb\n\"c\"d\n[", 10, noForm)
	wrong(t, "\"a\nb", 0, tooShort)
	wrong(t, "\"a b\\\" c", 0, tooShort)
	wrong(t, "a\\ b c\\", 6, tooShort)
}

// P12.1: ErrLong of the text goes ahead of all others.
func TestParseOfLengths(t *testing.T) {
	row := strings.Repeat("a", maxText)
	right(t, row, command(0, says(0, bare, row)))
	right(t, "{"+row[2:]+"}", command(0, says(0, braced, row[2:])))
	right(t, `"`+row[2:]+`"`, command(0, says(0, quoted, row[2:])))
	right(t, "#"+row[1:])
	wrong(t, row+"a", 0, tooLong)
	wrong(t, row+row, 0, tooLong)
	wrong(t, "["+row, 0, tooLong)
	wrong(t, "ab ["+row, 0, tooLong)
	wrong(t, "{"+row, 0, tooLong)
	wrong(t, strings.Repeat(" ", maxText+1), 0, tooLong)
	wrong(t, "#"+row, 0, tooLong)
	wrong(t, "ab["+row[3:], 2, noForm)
	wrong(t, row[1:]+"[", maxText-1, noForm)
}

func TestParseOfAllShortTexts(t *testing.T) {
	hold := func(s string) {
		if !t.Failed() {
			parses(t, s, wantParse(s))
		}
	}
	eachRow("{}\\\"$a; ", 6, hold)
	eachRow("a#;\n \t\"", 5, hold)
	eachRow("{}\\\"$a[]#;\n\t 1-\xff", 4, hold)
	eachRow("{}\\a ", 7, hold)
}

func TestParseOfAllPairs(t *testing.T) {
	for a := range 256 {
		for b := range 256 {
			if t.Failed() {
				return
			}
			for _, s := range []string{one(a) + one(b), `"` + one(a) + one(b) + `"`, "{" + one(a) + one(b) + "}", "$x" + one(a) + one(b), `a\` + one(a) + one(b)} {
				parses(t, s, wantParse(s))
			}
		}
	}
}

// rows to make longer texts of: most of the first ones' are right, of the others' many.
var rows = []string{
	"abc_019-\\\\\n;  \t#$$x",
	"abcdefgh   ;\n$-.\\",
	"{}\\ab \n\"",
	"{{{}}}ab; ",
	named + "$$$$$$$$",
	"\"\"\"\"ab $\\{}[]#;\n\t\x00\xff\xc3\xa401234567",
}

// chunks to make longer texts of that are right but for a few.
var chunks = []string{"a", "send", " ", " ", " ", "\t", ";", "\n", "{", "}", "{a b}", "{}", "{a {b} c}", `"a\n"`, `""`, `"$x-y$z"`, `"\012\044"`, "$x", "$y_1", `\173`, `\ `, `\\`, "#", "# a\n", "-exact", "eof", "exit 0\n", ` "`, `" `, "$", "x", "1"}

func longer(seed int) string {
	c := chance(seed)
	if seed%2 == 0 {
		return c.row(rows[c.below(len(rows))], c.below(100))
	}
	s := ""
	for range c.below(24) {
		s += chunks[c.below(len(chunks))]
	}
	return s
}

func TestParseOfLongerTexts(t *testing.T) {
	good := 0
	for seed := range 40000 {
		if t.Failed() {
			return
		}
		s := longer(seed)
		want := wantParse(s)
		if want.e == 0 && len(want.l) > 1 {
			good++
		}
		parses(t, s, want)
	}
	if good < 4000 {
		t.Errorf("only %d texts were right", good)
	}
}

// P12.2: what is printed.

func TestPrint(t *testing.T) {
	prints(t, nil, "", 0)
	prints(t, []api.Command{}, "", 0)
	prints(t, alone(says(0, bare, "send"), word(0, quoted, text("a\n"), variable("x"))), "send \"a\\012$x\"\n", 0)
	prints(t, commands([]api.Word{says(9, bare, "a")}, []api.Word{says(3, bare, "b"), says(0, bare, "c")}), "a\nb c\n", 0)
	prints(t, alone(word(0, quoted), word(0, braced)), "\"\" {}\n", 0)
	prints(t, alone(word(0, braced)), "{}\n", 0)
	prints(t, alone(says(0, braced, "{c} d\n;#$x[\"\\}\x00\xff")), "{{c} d\n;#$x[\"\\}\x00\xff}\n", 0)
	prints(t, alone(says(0, bare, "a b")), "a\\040b\n", 0)
	prints(t, alone(says(0, bare, " ")), "\\040\n", 0)
	prints(t, alone(says(0, quoted, " a b ")), "\" a b \"\n", 0)
	prints(t, alone(says(0, bare, "a\tb")), "a\\011b\n", 0)
	prints(t, alone(says(0, quoted, "a\tb")), "\"a\\011b\"\n", 0)
	prints(t, alone(says(0, bare, "#a")), "\\043a\n", 0)
	prints(t, alone(says(0, bare, `"#$;[\]{}`)), "\\042\\043\\044\\073\\133\\134\\135\\173\\175\n", 0)
	prints(t, alone(says(0, quoted, `"#$;[\]{}`)), "\"\\042\\043\\044\\073\\133\\134\\135\\173\\175\"\n", 0)
	prints(t, alone(says(0, quoted, "\x00\xff\xc3\xa4\x7f\r\n")), "\"\\000\\377\\303\\244\\177\\015\\012\"\n", 0)
	prints(t, alone(says(0, bare, "\n1")), "\\0121\n", 0)
	prints(t, alone(says(0, bare, strings.ReplaceAll(plain, " ", ""))), strings.ReplaceAll(plain, " ", "")+"\n", 0)
	prints(t, alone(says(0, quoted, plain)), `"`+plain+"\"\n", 0)
	prints(t, alone(says(0, bare, plain)), strings.ReplaceAll(plain, " ", `\040`)+"\n", 0)
}

// What stands behind a variable must not be taken for a part of its name.
func TestPrintOfVariables(t *testing.T) {
	x, y := variable("x"), variable("y_1")
	for _, c := range []struct {
		l    []api.Part
		want string
	}{
		{[]api.Part{x}, "$x"},
		{[]api.Part{x, y}, "$x$y_1"},
		{[]api.Part{x, x}, "$x$x"},
		{[]api.Part{text("a"), x}, "a$x"},
		{[]api.Part{text("$"), x}, `\044$x`},
		{[]api.Part{x, text("a")}, `$x\141`},
		{[]api.Part{x, text("ab")}, `$x\141b`},
		{[]api.Part{x, text("_1")}, `$x\1371`},
		{[]api.Part{x, text("1-"), x}, `$x\061-$x`},
		{[]api.Part{x, text("-a")}, "$x-a"},
		{[]api.Part{x, text("$a")}, `$x\044a`},
		{[]api.Part{x, text("\x00a")}, `$x\000a`},
		{[]api.Part{x, text("\xc3\xa4")}, `$x\303\244`},
		{[]api.Part{text("ab"), x, text("c"), y, text("d")}, `ab$x\143$y_1\144`},
		{[]api.Part{variable("0"), text("0")}, `$0\060`},
		{[]api.Part{variable("_")}, "$_"},
		{[]api.Part{variable(named[:62])}, "$" + named[:62]},
		{[]api.Part{variable(strings.Repeat("n", 64))}, "$" + strings.Repeat("n", 64)},
	} {
		prints(t, alone(word(0, bare, c.l...)), c.want+"\n", 0)
		prints(t, alone(word(0, quoted, c.l...)), `"`+c.want+"\"\n", 0)
		prints(t, alone(says(0, bare, "a"), word(0, quoted, c.l...), word(0, bare, c.l...)), `a "`+c.want+`" `+c.want+"\n", 0)
	}
	for c := range 256 {
		want := fmt.Sprintf(`$x\%03o`, c)
		if strings.IndexByte(plain, byte(c)) >= 0 && strings.IndexByte(named, byte(c)) < 0 {
			want = "$x" + one(c)
		}
		prints(t, alone(word(0, quoted, x, text(one(c)))), `"`+want+"\"\n", 0)
	}
}

// Places don't matter, whatever they are.
func TestPrintLooksAtNoPlaces(t *testing.T) {
	for _, at := range []int{math.MinInt, -1, 0, 1, 99, math.MaxInt} {
		prints(t, []api.Command{command(at, says(at, bare, "a"), word(-at, braced))}, "a {}\n", 0)
	}
}

func TestPrintOfWhatIsWrong(t *testing.T) {
	x, s := variable("x"), text("s")
	prints(t, []api.Command{{}}, "", wrongArg)
	prints(t, []api.Command{{At: 3, Words: []api.Word{}}}, "", wrongArg)
	for _, kind := range []int{math.MinInt, -1, 3, 4, 256, 257, 258, 1 << 32, math.MaxInt} {
		refused(t, word(0, kind))
		refused(t, word(0, kind, s))
		refused(t, word(0, kind, x))
	}
	refused(t, word(0, bare))
	refused(t, api.Word{Kind: bare, Parts: []api.Part{}})
	for _, kind := range []int{bare, quoted} {
		refused(t, word(0, kind, text("")))
		refused(t, word(0, kind, x, text("")))
		refused(t, word(0, kind, text(""), x))
		refused(t, word(0, kind, s, s))
		refused(t, word(0, kind, x, s, s))
		refused(t, word(0, kind, s, x, s, s, x))
		refused(t, word(0, kind, variable("")))
		refused(t, word(0, kind, s, variable("")))
		refused(t, word(0, kind, variable(strings.Repeat("n", 65))))
		refused(t, word(0, kind, s, variable(strings.Repeat("n", 999)), s))
		for c := range 256 {
			if strings.IndexByte(named, byte(c)) < 0 {
				refused(t, word(0, kind, variable(one(c))))
				refused(t, word(0, kind, variable("a"+one(c))))
				refused(t, word(0, kind, variable(one(c)+"a")))
				refused(t, word(0, kind, s, variable("a"+one(c)+"b")))
			} else {
				prints(t, alone(word(0, kind, variable(one(c)))), wantPrinted(word(0, kind, variable(one(c))))+"\n", 0)
			}
		}
		refused(t, word(0, kind, variable("\xc3\xa4")))
		refused(t, word(0, kind, variable("a\xef\xbf\xbd")))
	}
}

func TestPrintOfWhatCannotStandInBraces(t *testing.T) {
	refused(t, word(0, braced, variable("x")))
	refused(t, word(0, braced, text("")))
	refused(t, word(0, braced, api.Part{Var: true}))
	refused(t, word(0, braced, text("a"), text("b")))
	refused(t, word(0, braced, text("a"), variable("b")))
	refused(t, word(0, braced, variable("b"), text("a")))
	refused(t, word(0, braced, variable("a"), variable("b")))
	refused(t, word(0, braced, text(""), text("")))
	for _, s := range []string{"{", "}", "}{", "a}b", "{}}", "{{}", "} {", "}\n{", "};{", `\`, `a\`, `\\\`, `{\}`, `{a}\`, "} {a", "a} b {c", "}#{", `}\{`} {
		refused(t, word(0, braced, text(s)))
	}
	for _, s := range []string{"{}", `\{`, `\}`, `\\`, "{}{}", `{\}}`, `"`, "a", "[", "$", "#", "\n", ";", `\ `} {
		prints(t, alone(says(0, braced, s)), "{"+s+"}\n", 0)
	}
	deep := strings.Repeat("{", 63) + strings.Repeat("}", 63) // with the word's own just deep enough
	prints(t, alone(says(0, braced, deep)), "{"+deep+"}\n", 0)
	prints(t, alone(says(0, braced, deep+deep)), "{"+deep+deep+"}\n", 0)
	refused(t, says(0, braced, "{"+deep+"}"))
	refused(t, says(0, braced, deep+"{"+deep+"}"))
	refused(t, says(0, braced, deep+"{"))
}

// One thing is enough, wherever it stands, and nothing is printed then.
func TestPrintOfWhatIsWrongSomewhere(t *testing.T) {
	good := []api.Word{says(0, bare, "a"), word(0, quoted), word(0, braced)}
	for _, bad := range []api.Word{word(0, bare), word(0, 3), says(0, braced, "{"), word(0, quoted, variable("-"))} {
		for at := range 4 {
			l := slices.Insert(slices.Clone(good), at, bad)
			refused(t, l...)
			prints(t, commands(good, l, good), "", wrongArg)
			prints(t, commands(l, good), "", wrongArg)
			prints(t, commands(good, good, l), "", wrongArg)
		}
	}
	prints(t, commands(good, nil, good), "", wrongArg)
	prints(t, commands(good, nil), "", wrongArg)
	prints(t, commands(nil, good), "", wrongArg)
}

func TestPrintOfLengths(t *testing.T) {
	row := strings.Repeat("a", maxText+9)
	hold := func(want string, l ...api.Word) {
		t.Helper()
		if len(want) > maxText {
			prints(t, alone(l...), "", tooLong)
		} else {
			prints(t, alone(l...), want, 0)
		}
	}
	for _, n := range []int{maxText, maxText + 1} { // so long is what is printed of each
		hold(row[:n-1]+"\n", says(0, bare, row[:n-1]))
		hold("b "+row[:n-3]+"\n", says(0, bare, "b"), says(0, bare, row[:n-3]))
		hold(row[:n-4]+" \"\"\n", says(0, bare, row[:n-4]), word(0, quoted))
		hold(row[:n-4]+" {}\n", says(0, bare, row[:n-4]), word(0, braced))
		hold(`"`+row[:n-3]+"\"\n", says(0, quoted, row[:n-3]))
		hold("{"+row[:n-3]+"}\n", says(0, braced, row[:n-3]))
		hold(row[:n-3]+"$x\n", word(0, bare, text(row[:n-3]), variable("x")))
		hold(row[:n-5]+"$xyz\n", word(0, bare, text(row[:n-5]), variable("xyz")))
		hold("{"+row[:n-1]+"}\n", says(0, braced, row[:n-1])) // no script has such a word, but its own text isn't wrong
	}
	for _, n := range []int{maxText/4 - 1, maxText / 4} { // each as four
		s, want := strings.Repeat("\n", n), strings.Repeat(`\012`, n)
		hold(want+"\n", says(0, bare, s))
		hold("a"+want+"\n", says(0, bare, "a"+s))
		hold("aa"+want+"\n", says(0, bare, "aa"+s))
		hold("aaa"+want+"\n", says(0, bare, "aaa"+s))
	}
	half := says(0, bare, row[:maxText/2-1])
	prints(t, commands([]api.Word{half}, []api.Word{half}), row[:maxText/2-1]+"\n"+row[:maxText/2-1]+"\n", 0)
	prints(t, commands([]api.Word{half}, []api.Word{half}, []api.Word{says(0, bare, "a")}), "", tooLong)
	prints(t, commands([]api.Word{half}, []api.Word{half, word(0, braced)}), "", tooLong)
	prints(t, commands([]api.Word{says(0, bare, "a")}, []api.Word{half}, []api.Word{half}), "", tooLong)
}

// What is left out for its length doesn't let what is shorter fit.
func TestPrintOfWhatIsShortBehindWhatIsLong(t *testing.T) {
	row := strings.Repeat("a", maxText+1)
	a := says(0, bare, "a")
	prints(t, alone(says(0, braced, row), a), "", tooLong)
	prints(t, alone(a, says(0, braced, row)), "", tooLong)
	prints(t, commands([]api.Word{says(0, braced, row)}, []api.Word{a}), "", tooLong)
	prints(t, commands([]api.Word{a}, []api.Word{says(0, bare, row), a}, []api.Word{a}), "", tooLong)
	prints(t, commands([]api.Word{says(0, bare, row)}, []api.Word{word(0, bare)}), "", wrongArg) // which is named first
	prints(t, alone(says(0, bare, row), word(0, 3)), "", wrongArg)
	prints(t, alone(says(0, braced, row+"}")), "", wrongArg)
}

// anyWord: a word of a few parts, right or not.
func (c *chance) anyWord() api.Word {
	w := word(c.below(9), c.below(3))
	for range c.below(4) {
		switch c.below(9) {
		case 0, 1, 2:
			w.Parts = append(w.Parts, variable(c.row(named, 1+c.below(3))))
		case 3:
			w.Parts = append(w.Parts, text(c.row("{}\\ a", c.below(5))))
		case 4:
			w.Parts = append(w.Parts, text(c.row("\"#$;[\\]{} \n\xff\x00", 1+c.below(4))))
		default:
			w.Parts = append(w.Parts, text(c.row(plain, 1+c.below(5))))
		}
		if w.Kind == braced {
			break
		}
	}
	if c.below(40) == 0 {
		w.Kind = c.below(7) - 2
	}
	return w
}

func (c *chance) anyCommands() []api.Command {
	var l []api.Command
	for range c.below(3) {
		var words []api.Word
		for range c.below(4) {
			words = append(words, c.anyWord())
		}
		l = append(l, command(c.below(9), words...))
	}
	return l
}

func TestPrintOfAnyCommands(t *testing.T) {
	good := 0
	for seed := range 60000 {
		if t.Failed() {
			return
		}
		c := chance(seed)
		l := c.anyCommands()
		want, e := wantPrint(l)
		prints(t, l, want, e)
		if e == 0 && len(l) > 0 {
			good++
			again(t, l)
		}
	}
	if good < 4000 {
		t.Errorf("only %d could be printed", good)
	}
}

// P12.2: each text in braces is right just if it is told so.
func TestPrintOfAllShortBracedTexts(t *testing.T) {
	eachRow("{}\\a ", 7, func(s string) {
		if !t.Failed() {
			l := alone(says(0, braced, s))
			want, e := wantPrint(l)
			prints(t, l, want, e)
		}
	})
}

// P12.3: Same.

func TestSame(t *testing.T) {
	x := func() []api.Command {
		return []api.Command{command(0, says(0, bare, "a"), word(2, quoted, text("b"), variable("c"))), command(9, word(9, braced))}
	}
	same := func(want bool, a, b []api.Command) {
		t.Helper()
		if got := tcl.Same(a, b); got != want {
			t.Errorf("Same(%s, %s): %v", told(a), told(b), got)
		}
		if got := tcl.Same(b, a); got != want {
			t.Errorf("Same(%s, %s): %v", told(b), told(a), got)
		}
	}
	same(true, nil, nil)
	same(true, nil, []api.Command{})
	same(true, x(), x())
	same(true, x(), placeless(x()))
	same(false, nil, x())
	same(false, nil, []api.Command{{}})
	same(true, []api.Command{{}}, []api.Command{{At: 5, Words: []api.Word{}}})
	same(true, alone(word(0, bare)), alone(api.Word{At: 7, Parts: []api.Part{}}))
	for _, change := range []func(l []api.Command) []api.Command{
		func(l []api.Command) []api.Command { return l[:1] },
		func(l []api.Command) []api.Command { return l[1:] },
		func(l []api.Command) []api.Command { return append(l, command(0)) },
		func(l []api.Command) []api.Command { return append(l, l[0]) },
		func(l []api.Command) []api.Command { return []api.Command{l[1], l[0]} },
		func(l []api.Command) []api.Command { l[0].Words = l[0].Words[:1]; return l },
		func(l []api.Command) []api.Command { l[0].Words = nil; return l },
		func(l []api.Command) []api.Command { l[1].Words = append(l[1].Words, l[1].Words[0]); return l },
		func(l []api.Command) []api.Command { slices.Reverse(l[0].Words); return l },
		func(l []api.Command) []api.Command { l[0].Words[0].Kind = quoted; return l },
		func(l []api.Command) []api.Command { l[0].Words[0].Kind = 256; return l },
		func(l []api.Command) []api.Command { l[1].Words[0].Kind = bare; return l },
		func(l []api.Command) []api.Command { l[1].Words[0].Parts = []api.Part{text("")}; return l },
		func(l []api.Command) []api.Command { l[1].Words[0].Parts = []api.Part{{Var: true}}; return l },
		func(l []api.Command) []api.Command { l[0].Words[1].Parts[0].S = "B"; return l },
		func(l []api.Command) []api.Command { l[0].Words[1].Parts[1].S = ""; return l },
		func(l []api.Command) []api.Command { l[0].Words[1].Parts[1].Var = false; return l },
		func(l []api.Command) []api.Command { l[0].Words[1].Parts[0].Var = true; return l },
		func(l []api.Command) []api.Command { slices.Reverse(l[0].Words[1].Parts); return l },
		func(l []api.Command) []api.Command { l[0].Words[1].Parts = l[0].Words[1].Parts[:1]; return l },
		func(l []api.Command) []api.Command { l[0].Words[1].Parts = l[0].Words[1].Parts[1:]; return l },
		func(l []api.Command) []api.Command {
			l[0].Words[1].Parts = append(l[0].Words[1].Parts, text("d"))
			return l
		},
	} {
		same(false, x(), change(x()))
		same(true, change(x()), placeless(change(x())))
	}
	for _, at := range []int{math.MinInt, -1, 1, math.MaxInt} {
		y := x()
		y[0].At, y[0].Words[1].At, y[1].Words[0].At = at, at, at
		same(true, x(), y)
	}
	same(true, alone(word(0, -7, text(""), text("\xff"), variable("-"))), alone(word(1, -7, text(""), text("\xff"), variable("-")))) // whatever they are
	same(false, alone(word(0, bare, text("ab"))), alone(word(0, bare, text("a"), text("b"))))
	same(false, alone(says(0, bare, "a"), says(0, bare, "b")), commands([]api.Word{says(0, bare, "a")}, []api.Word{says(0, bare, "b")}))
}

// P12.4: what is printed is parsed as it was, what is parsed is printed, and parsed as the same.

// again holds all of it to commands that are right.
func again(t *testing.T, l []api.Command) {
	t.Helper()
	s, e := tcl.Print(l)
	if e != 0 {
		t.Fatalf("Print(%s): %v", told(l), e)
	}
	back, at, e := tcl.Parse(s)
	if at != 0 || e != 0 || told(placeless(back)) != told(placeless(l)) {
		t.Fatalf("%s printed is %q, and that parsed %s, %d, %v", told(l), s, told(back), at, e)
	}
	if !tcl.Same(l, back) {
		t.Fatalf("%s and %s aren't the same", told(l), told(back))
	}
	if twice, e := tcl.Print(back); twice != s || e != 0 {
		t.Fatalf("%q printed again is %q, %v", s, twice, e)
	}
}

func TestParsedIsPrinted(t *testing.T) {
	hold := func(s string) {
		if l, _, e := tcl.Parse(s); e == 0 {
			again(t, l)
		}
	}
	hold(" # a remark\nset x {a {b} \\} c} ;send \"p\\012$x-$y_1z$\"\n\n\texpect a\\ b;#x")
	eachRow("{}\\\"$a; ", 5, hold)
	eachRow("{}\\\"$a[]#;\n\t 1-\xff", 4, hold)
	for seed := range 20000 {
		hold(longer(seed))
	}
	for a := range 256 {
		for b := range 256 {
			again(t, alone(says(0, bare, one(a)+one(b)), says(0, quoted, one(b)+one(a)), word(0, bare, variable("x"), text(one(a)+one(b)), variable("y"))))
		}
	}
}

// Rules 4 and 7: what is handed in is neither changed nor kept; what lies behind a list's length is nobody's; what is answered is new memory.

func TestPrintAndSameChangeNothing(t *testing.T) {
	bad := word(7, 9, text(""))
	make1 := func() []api.Command {
		parts := []api.Part{text("a b"), variable("x"), text("1"), text(""), variable("-")}
		words := []api.Word{word(3, quoted, parts[:3]...), says(4, braced, "c"), bad}
		words[0].Parts = parts[:3]
		return []api.Command{command(1, words[:2]...), {Words: words[:2]}, command(2), {Words: []api.Word{bad}}}
	}
	l := make1()
	want := told(l)
	prints(t, l[:2], "\"a b$x\\061\" {c}\n\"a b$x\\061\" {c}\n", 0)
	if !tcl.Same(l[:2], make1()[:2]) || tcl.Same(l[:2], l) {
		t.Error("Same looks at what lies behind the length")
	}
	prints(t, l, "", wrongArg)
	if told(l) != want || told(l) != told(make1()) || l[1].Words[:3][2].Kind != 9 || l[1].Words[0].Parts[:5][4].S != "-" {
		t.Errorf("behind the calls: %s, wanted %s", told(l), want)
	}
}

// spoil writes over all memory of commands, also that behind the lengths.
func spoil(l []api.Command) {
	l = l[:cap(l)]
	for i := range l {
		words := l[i].Words[:cap(l[i].Words)]
		for k := range words {
			parts := words[k].Parts[:cap(words[k].Parts)]
			for j := range parts {
				parts[j] = variable("spoiled")
			}
			words[k] = says(-9, 9, "spoiled")
		}
		l[i] = command(-9)
	}
}

func TestParseAnswersNewMemory(t *testing.T) {
	s := "a b {c} \"d$e\" f$g$h-i;j {k l}\nm\nn {} \"\" o p q;r\ns;t;u\nv"
	want := wantParse(s)
	mine, _, _ := tcl.Parse(s)
	other, _, _ := tcl.Parse(s)
	spoil(other)
	if told(mine) != told(want.l) {
		t.Errorf("behind a change of another answer: %s", told(mine))
	}
	parses(t, s, want)
	for i := range want.l { // one command's lists have nothing to do with another one's
		mine, _, _ = tcl.Parse(s)
		spoil(mine[i : i+1 : i+1])
		mine[i] = want.l[i]
		if told(mine) != told(want.l) {
			t.Errorf("behind a change of the command %d: %s", i, told(mine))
		}
	}
	for k := range want.l[0].Words { // nor one word's with another one's
		mine, _, _ = tcl.Parse(s)
		w := mine[0].Words[k]
		for j := range w.Parts[:cap(w.Parts)] {
			w.Parts[:cap(w.Parts)][j] = variable("spoiled")
		}
		mine[0].Words[k] = want.l[0].Words[k]
		if told(mine) != told(want.l) {
			t.Errorf("behind a change of the word %d: %s", k, told(mine))
		}
	}
}

func TestTheSameAgain(t *testing.T) {
	for range 3 {
		right(t, "a $b", command(0, says(0, bare, "a"), word(2, bare, variable("b"))))
		wrong(t, "{", 0, tooShort)
		prints(t, alone(says(0, bare, "a")), "a\n", 0)
		prints(t, alone(word(0, bare)), "", wrongArg)
	}
}

// P1: every call ends, in no more time than it takes to go through the whole once, of texts as long as a script may be.
func TestLongTexts(t *testing.T) {
	inTime(t, "Parse, Print and Same", func() {
		for _, s := range []string{"a ", "$", `\\`, "#\n", "{} ", "a;", " ", "}", "$a-", "#", "a\\\n"} {
			l, at, e := tcl.Parse(strings.Repeat(s, maxText/4/len(s)))
			if at != 0 || e != 0 {
				t.Errorf("%q, again and again: %d, %v", s, at, e)
			}
			if !tcl.Same(l, l) {
				t.Errorf("%q, again and again, isn't the same as itself", s)
			}
			if p, e := tcl.Print(l); e == 0 && len(p) > maxText || e != 0 && e != tooLong {
				t.Errorf("%q, again and again, printed: %d bytes, %v", s, len(p), e)
			}
		}
		wrong(t, "{"+strings.Repeat("{}", maxText/2-1), 0, tooShort)
		wrong(t, strings.Repeat("a;", maxText/2-1)+"{", maxText-2, tooShort)
		wrong(t, `"`+strings.Repeat("$ ", maxText/2-1), 0, tooShort)
	})
}
