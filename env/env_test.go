package env_test

import (
	"iter"
	"math"
	"regexp"
	"runtime"
	"slices"
	"strconv"
	"strings"
	"testing"
	"time"

	"cuecard/api"
	"cuecard/env"
)

// The signatures are part of what is asked: a change of one must not build.
var (
	_ func() *env.Env                              = env.New
	_ func(*env.Env, string, string) api.Errno     = (*env.Env).Set
	_ func(*env.Env, string) (string, bool)        = (*env.Env).Get
	_ func(*env.Env) iter.Seq[string]              = (*env.Env).Names
	_ func(*env.Env, api.Word) (string, api.Errno) = (*env.Env).Word
	_ func(s string, lo, hi int) (int, api.Errno)  = env.Number
)

// The limits and the errors, by their numbers.
const (
	maxText    = 16777216
	maxName    = 64
	maxVars    = 256
	noEnv      = 1
	wrongArg   = 2
	outOfRange = 3
	noForm     = 4
	tooLong    = 6
	noSuch     = 8
	tooMany    = 10
)

// named: a name's bytes.
const named = "ABCDEFGHIJKLMNOPQRSTUVWXYZabcdefghijklmnopqrstuvwxyz0123456789_"

func is[T comparable](t *testing.T, what string, got, want T) {
	t.Helper()
	if got != want {
		t.Errorf("%s: %v, wanted %v", what, got, want)
	}
}

// What words are made of here.

func text(s string) api.Part     { return api.Part{S: s} }
func variable(s string) api.Part { return api.Part{Var: true, S: s} }
func word(l ...api.Part) api.Word {
	return api.Word{Parts: l}
}

// sets: Set of a name and a value answers an error, which may be OK.
func sets(t *testing.T, v *env.Env, name, value string, want api.Errno) {
	t.Helper()
	if e := v.Set(name, value); e != want {
		t.Errorf("Set(%.99q, %d bytes): %v, wanted %v", name, len(value), e, want)
	}
}

func gets(t *testing.T, v *env.Env, name, want string, wantOK bool) {
	t.Helper()
	if s, ok := v.Get(name); s != want || ok != wantOK {
		t.Errorf("Get(%.99q): %d bytes %.40q, %v, wanted %d bytes %.40q, %v", name, len(s), s, ok, len(want), want, wantOK)
	}
}

func tells(t *testing.T, v *env.Env, w api.Word, want string, wantE api.Errno) {
	t.Helper()
	if s, e := v.Word(w); s != want || e != wantE {
		t.Errorf("Word(%.99v): %d bytes %.40q, %v, wanted %d bytes %.40q, %v", w.Parts, len(s), s, e, len(want), want, wantE)
	}
}

// has: its variables are these, names and values by turns, in the order of the names.
func has(t *testing.T, v *env.Env, l ...string) {
	t.Helper()
	var names []string
	for i := 0; i < len(l); i += 2 {
		names = append(names, l[i])
		gets(t, v, l[i], l[i+1], true)
		tells(t, v, word(variable(l[i])), l[i+1], 0)
	}
	ofNames(t, v, names...)
}

func ofNames(t *testing.T, v *env.Env, want ...string) {
	t.Helper()
	if got := slices.Collect(v.Names()); !slices.Equal(got, want) {
		t.Errorf("Names: %.999q, wanted %.999q", got, want)
	}
}

// made: one with these variables, names and values by turns.
func made(t *testing.T, l ...string) *env.Env {
	t.Helper()
	v := env.New()
	for i := 0; i < len(l); i += 2 {
		sets(t, v, l[i], l[i+1], 0)
	}
	return v
}

// full: one with as many variables as there may be, each with its name as its value; and their names, in order.
func full(t *testing.T) (*env.Env, []string) {
	t.Helper()
	v := env.New()
	var names []string
	for i := range maxVars {
		names = append(names, "v"+strconv.Itoa(i))
		sets(t, v, names[i], names[i], 0)
	}
	slices.Sort(names)
	return v, names
}

// one: a text of one byte.
func one(c int) string { return string([]byte{byte(c)}) }

// inTime: it ends, and in less time than it would take to write all that is too long.
func inTime(t *testing.T, what string, do func()) {
	t.Helper()
	done := make(chan bool)
	go func() {
		defer close(done)
		do()
	}()
	select {
	case <-done:
	case <-time.After(time.Minute):
		t.Fatal(what, "takes too long")
	}
}

// inUse: how much memory is in use, when all that nobody has any more was let go.
func inUse() int {
	runtime.GC()
	runtime.GC()
	var m runtime.MemStats
	runtime.ReadMemStats(&m)
	return int(m.HeapAlloc)
}

// allocated: how much memory was ever asked for while something was done.
func allocated(do func()) int {
	var before, behind runtime.MemStats
	runtime.ReadMemStats(&before)
	do()
	runtime.ReadMemStats(&behind)
	return int(behind.TotalAlloc - before.TotalAlloc)
}

// The document's words, taken as they stand: what is held against the package.

type asAsked struct{ names, values []string }

func nameIsRight(s string) bool {
	for i := range len(s) {
		if strings.IndexByte(named, s[i]) < 0 {
			return false
		}
	}
	return len(s) >= 1 && len(s) <= maxName
}

func (a *asAsked) set(name, value string) api.Errno {
	i := slices.Index(a.names, name)
	switch {
	case !nameIsRight(name):
		return wrongArg
	case len(value) > maxText:
		return tooLong
	case i < 0 && len(a.names) == maxVars:
		return tooMany
	case i < 0:
		a.names, a.values = append(a.names, name), append(a.values, value)
	default:
		a.values[i] = value
	}
	return 0
}

func (a *asAsked) get(name string) (string, bool) {
	if i := slices.Index(a.names, name); i >= 0 {
		return a.values[i], true
	}
	return "", false
}

func (a *asAsked) inOrder() []string {
	l := slices.Clone(a.names)
	slices.Sort(l)
	return l
}

func (a *asAsked) word(w api.Word) (string, api.Errno) {
	all := ""
	for _, p := range w.Parts {
		s, ok := p.S, true
		if p.Var {
			s, ok = a.get(p.S)
		}
		if !ok {
			return "", noSuch
		}
		all += s
	}
	if len(all) > maxText {
		return "", tooLong
	}
	return all, 0
}

// aNumber: 0, or perhaps a - and from 1 to 9 digits, the first one not 0.
var aNumber = regexp.MustCompile(`\A(0|-?[1-9][0-9]{0,8})\z`)

func wantNumber(s string, lo, hi int) (int, api.Errno) {
	if !aNumber.MatchString(s) {
		return 0, noForm
	}
	n, err := strconv.Atoi(s)
	if err != nil {
		panic(err)
	}
	if n < lo || n > hi {
		return 0, outOfRange
	}
	return n, 0
}

// P16.1: New.

func TestANewOneHasNoVariables(t *testing.T) {
	v := env.New()
	if v == nil {
		t.Fatal("New: nil")
	}
	has(t, v)
	for _, name := range []string{"", "x", "timeout", "PATH", "0", "_", " ", "$x", strings.Repeat("x", maxName+1)} {
		gets(t, v, name, "", false)
		tells(t, v, word(variable(name)), "", noSuch)
	}
	has(t, v) // asking for one makes none
}

// P16.1: Set and Get.

func TestSet(t *testing.T) {
	v := env.New()
	sets(t, v, "x", "5", 0)
	has(t, v, "x", "5")
	gets(t, v, "y", "", false)
	sets(t, v, "y", "6", 0)
	has(t, v, "x", "5", "y", "6")
	sets(t, v, "x", "7", 0)
	has(t, v, "x", "7", "y", "6")
	sets(t, v, "x", "", 0)
	has(t, v, "x", "", "y", "6") // a variable without a byte is one
	sets(t, v, "x", "7", 0)
	sets(t, v, "x", "7", 0)
	has(t, v, "x", "7", "y", "6")
}

func TestNamesThatAreLikeOneAnother(t *testing.T) {
	l := []string{"0", "00", "1", "A", "AB", "Ab", "_", "_0", "__", "a", "aB", "ab", "abc", "b"}
	v := env.New()
	for i, name := range l {
		sets(t, v, name, strconv.Itoa(i), 0)
	}
	for i, name := range l {
		gets(t, v, name, strconv.Itoa(i), true)
	}
	ofNames(t, v, l...)
	for _, name := range []string{"B", "Abc", "aBc", "c", "a ", " a", "a\x00", "$a", "10", "01", ""} {
		gets(t, v, name, "", false)
	}
}

// holdsName: Set of a name answers as asked; what is refused is no variable then.
func holdsName(t *testing.T, v *env.Env, name string) {
	t.Helper()
	right := nameIsRight(name)
	var want api.Errno
	value := name
	if !right {
		want, value = wrongArg, ""
	}
	sets(t, v, name, name, want)
	gets(t, v, name, value, right)
}

func TestEachByteOfAName(t *testing.T) {
	for c := range 256 {
		v := env.New()
		for _, name := range []string{one(c), one(c) + "x", "x" + one(c), "x" + one(c) + "y", one(c) + one(c), strings.Repeat("n", maxName-1) + one(c)} {
			holdsName(t, v, name)
		}
	}
}

// All names of two bytes, those among them that are one letter of more bytes.
func TestAllNamesOfTwoBytes(t *testing.T) {
	for a := range 256 {
		v := env.New()
		for b := range 256 {
			holdsName(t, v, one(a)+one(b))
		}
	}
}

// No other letter is a name's, also none that ends as one that is, if its number is cut to a byte.
func TestEachLetterOfAName(t *testing.T) {
	v := env.New()
	for r := rune(0x80); r <= 0x10ffff; r++ {
		if e := v.Set(string(r), ""); e != wrongArg {
			t.Fatalf("Set(%q): %v", r, e)
		}
		if e := v.Set("x"+string(r), ""); e != wrongArg {
			t.Fatalf("Set of x and %q: %v", r, e)
		}
	}
	has(t, v)
}

func TestHowLongANameIs(t *testing.T) {
	for _, s := range []string{"x", "_", "0", "Z", "-", "\xff", "\xc3\xa4", "aZ9_"} {
		v := env.New()
		for n := range 2*maxName + 5 {
			holdsName(t, v, strings.Repeat(s, n))
		}
	}
	v := env.New()
	for _, n := range []int{255, 256, 257, 256 + maxName, 1 << 16, 1<<16 + 1, maxText, maxText + 1} {
		holdsName(t, v, strings.Repeat("x", n))
	}
	has(t, v)
}

func TestEachByteOfAValue(t *testing.T) {
	v := env.New()
	all := ""
	for c := range 256 {
		sets(t, v, "one", one(c), 0)
		sets(t, v, "two", "x"+one(c), 0)
		has(t, v, "one", one(c), "two", "x"+one(c))
		all += one(c)
	}
	sets(t, v, "all", all, 0)
	gets(t, v, "all", all, true)
	tells(t, v, word(text(all), variable("all")), all+all, 0)
}

func TestHowLongAValueIs(t *testing.T) {
	v := made(t, "y", "6")
	s := strings.Repeat("abc", maxText/3+2)
	for _, n := range []int{maxText - 1, maxText} {
		sets(t, v, "x", s[:n], 0)
		has(t, v, "x", s[:n], "y", "6")
	}
	for _, n := range []int{maxText + 1, maxText + 2, len(s)} {
		sets(t, v, "x", s[:n], tooLong)
		sets(t, v, "z", s[:n], tooLong)
		has(t, v, "x", s[:maxText], "y", "6")
	}
	sets(t, v, "x", "7", 0)
	has(t, v, "x", "7", "y", "6")
}

func TestHowManyThereAre(t *testing.T) {
	v, names := full(t)
	ofNames(t, v, names...)
	for _, name := range []string{"x", "V0", "v", "v256", strings.Repeat("x", maxName)} {
		sets(t, v, name, "", tooMany)
		gets(t, v, name, "", false)
	}
	for _, name := range names {
		gets(t, v, name, name, true)
		sets(t, v, name, "new", 0) // one that there is may be set anew
		gets(t, v, name, "new", true)
		sets(t, v, "x", "", tooMany)
	}
	ofNames(t, v, names...)
}

// A name that is set anew, or refused, is not one more.
func TestSetAnewIsNotOneMore(t *testing.T) {
	v := env.New()
	for range 2 * maxVars {
		sets(t, v, "x", "1", 0)
		sets(t, v, "a b", "1", wrongArg)
	}
	for i := range maxVars - 1 {
		sets(t, v, "v"+strconv.Itoa(i), "", 0)
	}
	sets(t, v, "y", "", tooMany)
	sets(t, v, "x", "2", 0)
	gets(t, v, "x", "2", true)
	is(t, "how many names", len(slices.Collect(v.Names())), maxVars)
}

// Where several errors apply, the one that is named first is answered, and nothing is changed.
func TestOrderOfSetsErrors(t *testing.T) {
	long := strings.Repeat("x", maxText+1)
	v, names := full(t)
	for _, name := range []string{"", " ", "a-b", strings.Repeat("x", maxName+1), long} {
		sets(t, v, name, long, wrongArg)
		sets(t, v, name, "", wrongArg)
	}
	sets(t, v, "x", long, tooLong)
	sets(t, v, "v0", long, tooLong)
	sets(t, v, "x", long[:maxText], tooMany)
	for _, name := range names {
		gets(t, v, name, name, true)
	}
	ofNames(t, v, names...)
	few := made(t, "v0", "1")
	sets(t, few, "a-b", long, wrongArg)
	sets(t, few, "x", long, tooLong)
	has(t, few, "v0", "1")
}

func TestErrorsAreNumbers(t *testing.T) {
	v := env.New()
	is(t, "Set", v.Set("", "").Error(), "error 2")
	is(t, "Set of a right name", v.Set("x", "").Error(), "error 0")
	_, e := v.Word(word(variable("y")))
	is(t, "Word", e.Error(), "error 8")
	_, e = env.Number("x", 0, 0)
	is(t, "Number", e.Error(), "error 4")
}

// P16.1: Names.

// In the order of their bytes, however they were set: digits, great letters, _, small letters; and what is shorter ahead of what goes on.
func TestNamesAreInOrder(t *testing.T) {
	var want []string
	for _, c := range named {
		want = append(want, string(c), string(c)+"0", string(c)+"a", string(c)+"zz")
	}
	slices.Sort(want)
	for seed := range 50 {
		c := chance(seed)
		l := slices.Clone(want)
		for i := range l {
			j := i + c.below(len(l)-i)
			l[i], l[j] = l[j], l[i]
		}
		v := env.New()
		for _, name := range l {
			sets(t, v, name, "", 0)
		}
		ofNames(t, v, want...)
		ofNames(t, v, want...)
	}
	ofNames(t, made(t, "a", "", "a10", "", "B", "", "a2", "", "_", "", "9", "", "aa", "", "A", ""), "9", "A", "B", "_", "a", "a10", "a2", "aa")
}

func TestNamesMayBeLeft(t *testing.T) {
	v := made(t, "c", "3", "a", "1", "b", "2")
	want := []string{"a", "b", "c"}
	for n := range 5 {
		var got []string
		names := v.Names()
		names(func(name string) bool {
			got = append(got, name)
			return len(got) < n
		})
		if k := min(max(n, 1), 3); !slices.Equal(got, want[:k]) {
			t.Errorf("Names, left behind %d: %q", n, got)
		}
		if got := slices.Collect(names); !slices.Equal(got, want) { // and the same function, from the front
			t.Errorf("Names, left, and gone through again: %q", got)
		}
	}
	for range v.Names() {
		break
	}
	has(t, v, "a", "1", "b", "2", "c", "3")
}

func TestNamesWithinNames(t *testing.T) {
	v := made(t, "b", "", "a", "")
	all, got := v.Names(), ""
	for x := range all {
		for y := range all {
			got += x + y + " "
		}
	}
	is(t, "Names within Names", got, "aa ab ba bb ")
}

// Names tells those that there were when it was called, and keeps nothing: variables may be set while they are gone through.
func TestNamesAreThoseOfTheirTime(t *testing.T) {
	v := env.New()
	none := v.Names()
	sets(t, v, "b", "", 0)
	first := v.Names()
	for name := range first {
		is(t, "name", name, "b")
		sets(t, v, "a", "", 0)
		sets(t, v, "c", "", 0)
	}
	if l := slices.Collect(none); len(l) != 0 {
		t.Errorf("Names of none: %q", l)
	}
	if l := slices.Collect(first); !slices.Equal(l, []string{"b"}) {
		t.Errorf("Names of one: %q", l)
	}
	ofNames(t, v, "a", "b", "c")
	for name := range v.Names() {
		sets(t, v, name+name, name, 0)
	}
	has(t, v, "a", "", "aa", "a", "b", "", "bb", "b", "c", "", "cc", "c")
}

func TestNamesAreNewMemory(t *testing.T) {
	v := made(t, "b", "2", "a", "1")
	l := slices.Collect(v.Names())
	clear(l)
	has(t, v, "a", "1", "b", "2")
}

// P16.2: Word.

func TestExample(t *testing.T) {
	v := env.New()
	sets(t, v, "x", "5", 0)
	tells(t, v, word(text("a"), variable("x"), text("-"), variable("x")), "a5-5", 0)
}

func TestWord(t *testing.T) {
	v := made(t, "x", "5", "y", "$x", "none", "", "B_9", "\xff\x00")
	for _, c := range []struct {
		w    api.Word
		want string
	}{
		{word(), ""},
		{word(text("")), ""},
		{word(text(""), text(""), text("")), ""},
		{word(variable("none")), ""},
		{word(variable("none"), text("a"), variable("none")), "a"},
		{word(text("a")), "a"},
		{word(text("a"), text("b"), text("c")), "abc"}, // texts that stand side by side are none the less
		{word(text("x")), "x"},
		{word(text("$x")), "$x"},
		{word(text(`\n`), text("[x]"), text("{"), text(`"`)), `\n[x]{"`},
		{word(variable("x")), "5"},
		{word(variable("x"), variable("x"), variable("x")), "555"},
		{word(variable("y")), "$x"}, // what a value tells is not told again
		{word(variable("y"), text("y"), variable("x"), text("x")), "$xy5x"},
		{word(text("a"), variable("B_9"), text("b")), "a\xff\x00b"},
		{word(text("\xff"), text("\xc3"), text("\xa4")), "\xff\xc3\xa4"},
	} {
		tells(t, v, c.w, c.want, 0)
		for _, kind := range []int{0, 1, 2, 3, 7, -1, math.MinInt, math.MaxInt} {
			w := c.w
			w.Kind, w.At = kind, -kind
			tells(t, v, w, c.want, 0)
		}
	}
}

func TestEachByteOfAWord(t *testing.T) {
	v := env.New()
	for c := range 256 {
		sets(t, v, "x", one(255-c), 0)
		tells(t, v, word(text(one(c)), variable("x"), text(one(c)+"."+one(c))), one(c)+one(255-c)+one(c)+"."+one(c), 0)
	}
}

func TestWordOfAVariableThatThereIsnt(t *testing.T) {
	v := made(t, "x", "5", "none", "")
	no := []string{"y", "X", "xx", "", " ", "x ", "$x", "5", "non", "\xff", "\x00", strings.Repeat("x", maxName), strings.Repeat("x", maxName+1), strings.Repeat("x", maxText+1)}
	for _, name := range no {
		tells(t, v, word(variable(name)), "", noSuch)
		tells(t, v, word(text("a"), variable(name)), "", noSuch)
		tells(t, v, word(variable(name), text("a")), "", noSuch)
		tells(t, v, word(variable("x"), variable(name), variable("x")), "", noSuch)
		tells(t, v, word(variable(name), variable(name)), "", noSuch)
		gets(t, v, name, "", false)
	}
	has(t, v, "none", "", "x", "5")
}

// A variable is asked for when the word is told, not once for all.
func TestWordAsVariablesAreNow(t *testing.T) {
	v := env.New()
	w := word(text("a"), variable("x"))
	tells(t, v, w, "", noSuch)
	sets(t, v, "x", "1", 0)
	tells(t, v, w, "a1", 0)
	sets(t, v, "x", "22", 0)
	tells(t, v, w, "a22", 0)
	sets(t, v, "x", "", 0)
	tells(t, v, w, "a", 0)
}

func TestHowLongAWordIs(t *testing.T) {
	s := strings.Repeat("abcde", maxText/5+3)
	half := s[:maxText/2]
	v := made(t, "all", s[:maxText], "half", half, "one", "!", "none", "")
	for _, c := range []struct {
		what string
		w    api.Word
		want string
	}{
		{"a text", word(text(s[:maxText])), s[:maxText]},
		{"a variable", word(variable("all")), s[:maxText]},
		{"and nothing", word(variable("none"), text(""), variable("all"), text(""), variable("none")), s[:maxText]},
		{"two halves", word(variable("half"), text(half)), half + half},
		{"and one less", word(text(half), variable("one"), text(half[1:])), half + "!" + half[1:]},
		{"a byte less", word(text(s[:maxText-2]), variable("one")), s[:maxText-2] + "!"},
	} {
		got, e := v.Word(c.w)
		if e != 0 || got != c.want {
			t.Errorf("%s: %d bytes, %v, wanted %d bytes", c.what, len(got), e, len(c.want))
		}
	}
	for _, w := range []api.Word{
		word(text(s[:maxText+1])),
		word(text(s)),
		word(text(s[:maxText]), text("a")),
		word(text("a"), text(s[:maxText])),
		word(variable("all"), variable("one")),
		word(variable("one"), variable("all")),
		word(variable("all"), variable("all")),
		word(variable("half"), variable("half"), text("a")),
		word(text(half), variable("one"), text(half)),
		word(text(s), variable("one")), // what follows would have room, but comes too late
		word(text("a"), text(s), text("b")),
		word(variable("one"), variable("all"), variable("none"), variable("none")),
	} {
		tells(t, v, w, "", tooLong)
	}
}

// ErrNone is named first: it is answered wherever the variable stands, ahead of what is too long, or behind it.
func TestOrderOfWordsErrors(t *testing.T) {
	s := strings.Repeat("a", maxText+1)
	v := made(t, "all", s[:maxText])
	for _, w := range []api.Word{
		word(variable("y"), text(s)),
		word(text(s), variable("y")),
		word(text(s), text(s), variable("y")),
		word(variable("all"), variable("all"), variable("y")),
		word(variable("all"), variable("y"), variable("all")),
		word(text("a"), variable("all"), text("a"), variable("y"), text("a")),
		word(text(s), variable("y"), variable("all"), text(s)),
	} {
		tells(t, v, w, "", noSuch)
	}
}

// What would be longer than any number of few bits tells, also just so long that it tells 0 again, is too long; none of it is written.
func TestWordThatIsMuchTooLong(t *testing.T) {
	v := made(t, "all", strings.Repeat("a", maxText), "one", "!")
	for _, n := range []int{2, 127, 128, 129, 255, 256, 257, 512, 1000, 100000} {
		w := word(slices.Repeat([]api.Part{variable("all")}, n)...)
		inTime(t, "a word that is much too long", func() {
			if got := allocated(func() { tells(t, v, w, "", tooLong) }); got > 4*maxText {
				t.Errorf("%d parts: %d bytes of memory", n, got)
			}
			w.Parts = append(w.Parts, variable("one"))
			tells(t, v, w, "", tooLong)
			w.Parts = append(w.Parts, variable("y"))
			tells(t, v, w, "", noSuch)
		})
	}
}

func TestManyParts(t *testing.T) {
	v := made(t, "x", "ab", "none", "")
	inTime(t, "many parts", func() {
		l := slices.Repeat([]api.Part{variable("x"), text("c"), variable("none"), text("")}, maxText/16)
		tells(t, v, word(l...), strings.Repeat("abc", maxText/16), 0)
		l = slices.Repeat([]api.Part{variable("x"), text("cd")}, maxText/4)
		tells(t, v, word(l...), strings.Repeat("abcd", maxText/4), 0)
		tells(t, v, word(append(l, variable("none"), text("e"))...), "", tooLong)
	})
}

// Rule 4: what lies behind the parts' length is not read, and the word is left as it is.
func TestWordChangesNothing(t *testing.T) {
	v := made(t, "x", "5")
	whole := []api.Part{text("a"), variable("x"), variable("y"), text("b")}
	want := slices.Clone(whole)
	tells(t, v, word(whole[:2]...), "a5", 0)
	tells(t, v, word(whole[:0]...), "", 0)
	tells(t, v, word(whole[1:2]...), "5", 0)
	tells(t, v, word(whole...), "", noSuch)
	if !slices.Equal(whole, want) {
		t.Errorf("the parts that were handed in: %v", whole)
	}
	has(t, v, "x", "5")
}

// P16.3: Number.

func numbers(t *testing.T, s string, lo, hi int) {
	t.Helper()
	n, e := env.Number(s, lo, hi)
	want, wantE := wantNumber(s, lo, hi)
	if n != want || e != wantE {
		t.Errorf("Number(%.40q, %d, %d): %d, %v, wanted %d, %v", s, lo, hi, n, e, want, wantE)
	}
}

func TestNumber(t *testing.T) {
	for _, c := range []struct {
		s      string
		lo, hi int
		want   int
		wantE  api.Errno
	}{
		{"-7", -9, 9, -7, 0},
		{"07", -9, 9, 0, noForm},
		{"0", -9, 9, 0, 0},
		{"0", 0, 0, 0, 0},
		{"0", 1, 9, 0, outOfRange},
		{"0", -9, -1, 0, outOfRange},
		{"-0", -9, 9, 0, noForm},
		{"00", -9, 9, 0, noForm},
		{"9", -9, 9, 9, 0},
		{"10", -9, 9, 0, outOfRange},
		{"-9", -9, 9, -9, 0},
		{"-10", -9, 9, 0, outOfRange},
		{"5", 5, 5, 5, 0},
		{"-5", -5, -5, -5, 0},
		{"5", 6, 4, 0, outOfRange}, // no number is neither below nor above
		{"5", 9, -9, 0, outOfRange},
		{"10", 9, -9, 0, outOfRange},
		{"999999999", 0, math.MaxInt, 999999999, 0},
		{"-999999999", math.MinInt, 0, -999999999, 0},
		{"123456789", math.MinInt, math.MaxInt, 123456789, 0},
		{"-123456789", math.MinInt, math.MaxInt, -123456789, 0},
		{"999999999", 0, 999999998, 0, outOfRange},
		{"-999999999", -999999998, 0, 0, outOfRange},
		{"100000000", 100000000, 100000000, 100000000, 0},
		{"1000000000", math.MinInt, math.MaxInt, 0, noForm}, // ten digits
		{"-1000000000", math.MinInt, math.MaxInt, 0, noForm},
		{"1000000000", 0, 0, 0, noForm}, // the form is named ahead of the range
		{"x", 9, -9, 0, noForm},
		{"", 1, 0, 0, noForm},
		{"1", math.MaxInt, math.MaxInt, 0, outOfRange},
		{"-1", math.MinInt, math.MinInt, 0, outOfRange},
		{"1", math.MaxInt, math.MinInt, 0, outOfRange},
	} {
		if n, e := env.Number(c.s, c.lo, c.hi); n != c.want || e != c.wantE {
			t.Errorf("Number(%q, %d, %d): %d, %v, wanted %d, %v", c.s, c.lo, c.hi, n, e, c.want, c.wantE)
		}
		numbers(t, c.s, c.lo, c.hi)
	}
}

func TestNumberOfWrongForm(t *testing.T) {
	for _, s := range []string{
		"", "-", "--", "--1", "+", "+1", "-+1", "+-1", "1-", "1-2", "-01", "-00", "-", "01", "001", "0x1", "0b1", "0o7", "1e3", "1.", "1.0", ".1", "1,000", "1_000", "_1",
		" 1", "1 ", "\t1", "1\n", "\n1", "1\r", "- 1", "1 2", "1\x00", "\x001", "x", "1x", "x1", "$x", "NaN", "Inf", "true", "one",
		"\xd9\xa1", "\xef\xbc\x91", "1\xef\xbc\x91", "\xc2\xb2", "\xe2\x88\x921", "\xff", "1\xff", "-\xff", "9\xc3\xa4",
		"0000000001", "-0000000001", "000000000", "0123456789", "1234567890", "-1234567890", "12345678901", "4294967296", "4294967297", "18446744073709551616", "18446744073709551617", "99999999999999999999",
	} {
		for _, l := range [][2]int{{math.MinInt, math.MaxInt}, {0, 1000}, {1, 0}} {
			if n, e := env.Number(s, l[0], l[1]); n != 0 || e != noForm {
				t.Errorf("Number(%q, %d, %d): %d, %v", s, l[0], l[1], n, e)
			}
		}
		numbers(t, s, math.MinInt, math.MaxInt)
	}
}

func TestAllShortTextsAsNumbers(t *testing.T) {
	const bytes, most = "0159-+ x.:/", 5
	var short func(s string)
	short = func(s string) {
		numbers(t, s, math.MinInt, math.MaxInt)
		numbers(t, s, -15, 51)
		if len(s) < most {
			for i := range len(bytes) {
				short(s + bytes[i:i+1])
			}
		}
	}
	short("")
}

func TestEachByteOfANumber(t *testing.T) {
	for a := range 256 {
		numbers(t, one(a), -9, 9)
		numbers(t, "-"+one(a), -9, 9)
		numbers(t, "12345678"+one(a), 0, math.MaxInt)
		for b := range 256 {
			numbers(t, one(a)+one(b), -99, 99)
			numbers(t, "1"+one(a)+one(b), -999, 999)
		}
	}
}

func TestHowManyDigitsANumberHas(t *testing.T) {
	for n := range 40 {
		for _, digit := range []string{"0", "1", "9"} {
			numbers(t, strings.Repeat(digit, n), math.MinInt, math.MaxInt)
			numbers(t, "-"+strings.Repeat(digit, n), math.MinInt, math.MaxInt)
			numbers(t, "1"+strings.Repeat(digit, n), math.MinInt, math.MaxInt)
			numbers(t, "-"+"1"+strings.Repeat(digit, n), math.MinInt, math.MaxInt)
		}
	}
	inTime(t, "a number of many digits", func() {
		for _, n := range []int{256, 257, 1 << 16, 1<<16 + 1, 1 << 27} {
			for _, s := range []string{"1", "-", "0"} {
				got, e := env.Number(strings.Repeat(s, n), math.MinInt, math.MaxInt)
				if got != 0 || e != noForm {
					t.Errorf("Number of %d times %s: %d, %v", n, s, got, e)
				}
			}
		}
	})
}

func TestAllSmallNumbers(t *testing.T) {
	for n := -1200; n <= 1200; n++ {
		s := strconv.Itoa(n)
		for _, l := range [][2]int{{n, n}, {n - 1, n + 1}, {n + 1, n + 2}, {n - 2, n - 1}, {n + 1, n - 1}, {math.MinInt, n}, {n, math.MaxInt}, {math.MinInt, n - 1}, {n + 1, math.MaxInt}} {
			numbers(t, s, l[0], l[1])
		}
	}
}

func TestLongerNumbers(t *testing.T) {
	c := chance(1)
	for range 100000 {
		n := c.below(2000000000) - 1000000000
		lo, hi := c.below(2000000000)-1000000000, c.below(2000000000)-1000000000
		numbers(t, strconv.Itoa(n), lo, hi)
		numbers(t, strconv.Itoa(n), min(lo, hi), max(lo, hi))
		numbers(t, strconv.Itoa(n/1000), min(lo, hi), max(lo, hi))
	}
}

// P16.4: what is set is told until it is set anew, and nothing else is changed.

// chance: numbers that look like chance's, and are the same in each run.
type chance uint64

func (c *chance) below(n int) int {
	*c = *c*6364136223846793005 + 1442695040888963407
	return int(uint64(*c>>33) % uint64(n))
}

// name: one of few, some of them wrong.
func (c *chance) name() string {
	l := []string{"a", "b", "ab", "A", "_", "0", "timeout", "", "a b", "\xc3\xa4", strings.Repeat("n", maxName), strings.Repeat("n", maxName+1)}
	if i := c.below(2 * len(l)); i < len(l) {
		return l[i]
	}
	return "v" + strconv.Itoa(c.below(300))
}

func (c *chance) value() string {
	if c.below(2000) == 0 {
		return strings.Repeat("x", maxText/2+c.below(2)*(maxText/2+c.below(2)))
	}
	b := make([]byte, c.below(6))
	for i := range b {
		b[i] = byte(c.below(256))
	}
	return string(b)
}

func (c *chance) word() api.Word {
	w := api.Word{At: c.below(9), Kind: c.below(4)}
	for range c.below(6) {
		w.Parts = append(w.Parts, api.Part{Var: c.below(2) == 0, S: c.name()})
	}
	return w
}

// agrees: whether it tells of all names that are asked for what the document asks, and nothing else.
func agrees(t *testing.T, v *env.Env, a *asAsked) {
	t.Helper()
	ofNames(t, v, a.inOrder()...)
	for i, name := range a.names {
		gets(t, v, name, a.values[i], true)
	}
}

func TestLongRows(t *testing.T) {
	for seed := range 60 {
		c := chance(seed)
		v, a := env.New(), &asAsked{}
		for range 30 + 1200*(seed%3) {
			name, value := c.name(), c.value()
			sets(t, v, name, value, a.set(name, value))
			want, ok := a.get(name)
			gets(t, v, name, want, ok)
			w := c.word()
			wantWord, e := a.word(w)
			tells(t, v, w, wantWord, e)
			if c.below(20) == 0 {
				agrees(t, v, a)
			}
		}
		agrees(t, v, a)
		if t.Failed() {
			t.Fatal("seed", seed)
		}
	}
}

// All rows of four Sets of few names and values; what was told stays as it is.
func TestAllShortRows(t *testing.T) {
	var all [][2]string
	for _, name := range []string{"a", "b", "ab", "", "-"} {
		for _, value := range []string{"", "1", "$b"} {
			all = append(all, [2]string{name, value})
		}
	}
	w := word(variable("a"), text("/"), variable("b"))
	for row := range len(all) * len(all) * len(all) * len(all) {
		v, a := env.New(), &asAsked{}
		for i, left := 0, row; i < 4; i, left = i+1, left/len(all) {
			x := all[left%len(all)]
			sets(t, v, x[0], x[1], a.set(x[0], x[1]))
		}
		agrees(t, v, a)
		want, e := a.word(w)
		tells(t, v, w, want, e)
	}
}

func TestAskingChangesNothing(t *testing.T) {
	v, a := env.New(), &asAsked{}
	c := chance(7)
	for range 200 {
		name, value := c.name(), strconv.Itoa(c.below(99))
		sets(t, v, name, value, a.set(name, value))
		for range 3 {
			v.Get(c.name())
			v.Word(c.word())
			v.Names()
			env.Number(value, 0, 9)
			agrees(t, v, a)
		}
	}
}

// A nil one.

func TestNilEnv(t *testing.T) {
	var v *env.Env
	long := strings.Repeat("x", maxText+1)
	for range 2 {
		for _, name := range []string{"x", "", "a b", long} {
			sets(t, v, name, "", noEnv) // ahead of all others
			sets(t, v, name, long, noEnv)
			gets(t, v, name, "", false)
			tells(t, v, word(variable(name)), "", noEnv)
		}
		tells(t, v, word(), "", noEnv)
		tells(t, v, word(text("a")), "", noEnv)
		tells(t, v, word(text(long), variable("x")), "", noEnv)
		if v.Names() == nil {
			t.Error("Names: no function")
		}
		ofNames(t, v)
	}
	is(t, "Set's error", v.Set("x", "").Error(), "error 1")
}

// P2: those that were made apart.

func TestEnvsAreApart(t *testing.T) {
	a, b := env.New(), env.New()
	sets(t, a, "x", "1", 0)
	has(t, b)
	sets(t, b, "x", "2", 0)
	sets(t, b, "y", "3", 0)
	has(t, a, "x", "1")
	has(t, b, "x", "2", "y", "3")
	names := b.Names()
	whole, _ := full(t)
	sets(t, whole, "x", "", tooMany)
	sets(t, a, "z", "4", 0)
	has(t, a, "x", "1", "z", "4")
	has(t, b, "x", "2", "y", "3")
	if l := slices.Collect(names); !slices.Equal(l, []string{"x", "y"}) {
		t.Errorf("Names of the other one: %q", l)
	}
}

// What is kept: no more than names and values. A short text that was cut out of a long one doesn't keep that.
func TestMemory(t *testing.T) {
	const some, long, slack = 30, 1 << 22, 1 << 23
	v := env.New()
	var words []string
	var names []iter.Seq[string]
	before := inUse()
	for i := range some {
		script := "n" + strconv.Itoa(i) + " value " + strings.Repeat("x", long)
		parts := strings.SplitN(script, " ", 3)
		sets(t, v, parts[0], parts[1], 0)
		sets(t, v, parts[0], parts[1], 0) // and one that there is, likewise
		s, _ := v.Word(word(text(parts[1])))
		words, names = append(words, s), append(names, v.Names())
		sets(t, v, parts[2][:maxName+1], parts[2], wrongArg)
	}
	if n := inUse() - before; n > slack {
		t.Errorf("%d variables of few bytes: %d bytes of memory", some, n)
	}
	for i := range some {
		gets(t, v, "n"+strconv.Itoa(i), "value", true)
	}
	runtime.KeepAlive(v)
	runtime.KeepAlive(words)
	runtime.KeepAlive(names)
}

// A value that is set anew is not held any longer.
func TestOldValuesAreLetGo(t *testing.T) {
	v := env.New()
	before := inUse()
	for i := range 40 {
		sets(t, v, "x", strings.Repeat(one(i), maxText/2), 0)
	}
	if n := inUse() - before; n > 4*maxText {
		t.Errorf("one variable that was set often: %d bytes of memory", n)
	}
	sets(t, v, "x", "", 0)
	if n := inUse() - before; n > maxText/4 {
		t.Errorf("one variable of no bytes: %d bytes of memory", n)
	}
	runtime.KeepAlive(v)
}
