package trans_test

import (
	"bytes"
	"encoding/binary"
	"math"
	"math/big"
	"reflect"
	"slices"
	"testing"

	"cuecard/api"
	"cuecard/trans"
)

// The signatures are part of what is asked: a change of one must not build.
var (
	_ func(api.Transcript) ([]byte, api.Errno)      = trans.Encode
	_ func([]byte) (api.Transcript, int, api.Errno) = trans.Decode
)

// The errors, the limits and the directions, by their numbers.
const (
	fine     = 0
	wrong    = 2
	noForm   = 4
	tooShort = 5
	tooLong  = 6
	tooMany  = 10
	maxData  = 65536
	maxCount = 4096
	maxWhole = 262144
	out      = 0
	in       = 1
	least    = math.MinInt64
	greatest = math.MaxInt64
)

func ev(dir int, time int64, s string) api.Event {
	return api.Event{Dir: dir, Time: time, Data: []byte(s)}
}

// long: an event of so many bytes, which differ.
func long(dir, n int) api.Event {
	e := api.Event{Dir: dir, Data: make([]byte, n)}
	for i := range e.Data {
		e.Data[i] = byte(i * 7)
	}
	return e
}

func transcript(end bool, l ...api.Event) api.Transcript { return api.Transcript{Events: l, End: end} }

// plain: a transcript as it is compared here: an empty list is no other than a nil one.
func plain(t api.Transcript) api.Transcript {
	p := api.Transcript{Events: []api.Event{}, End: t.End}
	for _, e := range t.Events {
		p.Events = append(p.Events, api.Event{Dir: e.Dir, Time: e.Time, Data: append([]byte{}, e.Data...)})
	}
	return p
}

func equal(a, b api.Transcript) bool { return reflect.DeepEqual(plain(a), plain(b)) }

func times(n int, c byte) []byte { return bytes.Repeat([]byte{c}, n) }

// row: bytes of numbers, of texts, and of lists, in a row.
func row(parts ...any) []byte {
	var b []byte
	for _, p := range parts {
		switch x := p.(type) {
		case int:
			b = append(b, byte(x))
		case string:
			b = append(b, x...)
		case []byte:
			b = append(b, x...)
		default:
			panic("neither a byte, nor a text, nor a list")
		}
	}
	return b
}

// brief: bytes as they are told of.
func brief(b []byte) any {
	if len(b) > 60 {
		return struct {
			First, Last []byte
			Len         int
		}{b[:40], b[len(b)-10:], len(b)}
	}
	return b
}

// encodes: the bytes of a transcript that is right.
func encodes(t *testing.T, what string, x api.Transcript, want []byte) {
	t.Helper()
	b, e := trans.Encode(x)
	if e != fine || !bytes.Equal(b, want) {
		t.Errorf("Encode of %s: %v, %v, wanted %v", what, brief(b), e, brief(want))
	}
}

// refuses: the error of a transcript that isn't, and no bytes beside it.
func refuses(t *testing.T, what string, want api.Errno, x api.Transcript) {
	t.Helper()
	for _, end := range []bool{false, true} {
		x.End = end
		if b, e := trans.Encode(x); e != want || len(b) != 0 {
			t.Errorf("Encode of %s: %v, %v, wanted %v", what, brief(b), e, want)
		}
	}
}

// decodes: the transcript of bytes that are one's.
func decodes(t *testing.T, what string, b []byte, want api.Transcript) {
	t.Helper()
	x, at, e := trans.Decode(b)
	if e != fine || at != 0 || !equal(x, want) {
		t.Errorf("Decode of %s (%v): %d events, %v, at %d, %v", what, brief(b), len(x.Events), x.End, at, e)
	}
}

// fails: the error of bytes that are no transcript's, and its place; no events beside it, and no End.
func fails(t *testing.T, what string, b []byte, place int, want api.Errno) {
	t.Helper()
	x, at, e := trans.Decode(b)
	if e != want || at != place {
		t.Errorf("Decode of %s (%v): at %d, %v, wanted at %d, %v", what, brief(b), at, e, place, want)
	}
	if len(x.Events) != 0 || x.End {
		t.Errorf("Decode of %s (%v): %d events, %v beside an error", what, brief(b), len(x.Events), x.End)
	}
}

// written: transcripts and their bytes, told by hand.
var written = []struct {
	what string
	x    api.Transcript
	b    []byte
}{
	{"nothing", transcript(false), row("CUE1")},
	{"the end alone", transcript(true), row("CUE1", 3)},
	{"an empty list", transcript(false, []api.Event{}...), row("CUE1")},
	{"the chapter's example", transcript(true, ev(out, 5, "ab")), []byte{67, 85, 69, 49, 1, 10, 2, 97, 98, 3}},
	{"the same without the end", transcript(false, ev(out, 5, "ab")), []byte{67, 85, 69, 49, 1, 10, 2, 97, 98}},
	{"the zero event", transcript(false, api.Event{}), row("CUE1", 1, 0, 0)},
	{"events without bytes", transcript(true, ev(in, 0, ""), api.Event{Dir: out, Time: 1}, ev(in, 1, "")), row("CUE1", 2, 0, 0, 1, 2, 0, 2, 0, 0, 3)},
	{"one way and the other", transcript(false, ev(in, 1, "x"), ev(out, 3, "yz"), ev(out, 3, "w")), row("CUE1", 2, 2, 1, "x", 1, 4, 2, "yz", 1, 0, 1, "w")},
	{"a Time below 0", transcript(false, ev(out, -1, "a"), ev(in, -2, "b"), ev(in, -1, "")), row("CUE1", 1, 1, 1, "a", 2, 1, 1, "b", 2, 2, 0)},
	{"Times that go back", transcript(true, ev(out, 9, "a"), ev(in, 4, "b"), ev(out, -4, "c")), row("CUE1", 1, 18, 1, "a", 2, 9, 1, "b", 1, 15, 1, "c", 3)},
	{"Times of two bytes", transcript(false, ev(out, 63, ""), ev(out, 127, ""), ev(out, 63, ""), ev(out, -2, "")), row("CUE1", 1, 126, 0, 1, 128, 1, 0, 1, 127, 0, 1, 129, 1, 0)},
	{"the least Time and the greatest, and back", transcript(true, ev(out, least, "a"), ev(in, greatest, "b"), ev(out, least, "c")), row("CUE1", 1, times(9, 255), 1, 1, "a", 2, 1, 1, "b", 1, 2, 1, "c", 3)},
	{"the greatest Time and the least, and back", transcript(false, ev(out, greatest, ""), ev(in, least, ""), ev(out, greatest, "")), row("CUE1", 1, 254, times(8, 255), 1, 0, 2, 2, 0, 1, 1, 0)},
	{"Times far from one another", transcript(false, ev(out, -1, ""), ev(out, greatest, ""), ev(out, 0, ""), ev(out, least, ""), ev(out, 0, "")), row("CUE1", 1, 1, 0, 1, times(9, 255), 1, 0, 1, 253, times(8, 255), 1, 0, 1, times(9, 255), 1, 0, 1, times(9, 255), 1, 0)},
	{"bytes that look like others", transcript(true, ev(in, 0, "\x03"), ev(out, 0, "CUE1\x01\x00\x00"), ev(out, 0, "\x00\x80\xff")), row("CUE1", 2, 0, 1, 3, 1, 0, 7, "CUE1", 1, 0, 0, 1, 0, 3, 0, 128, 255, 3)},
	{"127 bytes", transcript(false, long(in, 127)), row("CUE1", 2, 0, 127, long(in, 127).Data)},
	{"128 bytes", transcript(true, long(in, 128)), row("CUE1", 2, 0, 128, 1, long(in, 128).Data, 3)},
	{"300 bytes", transcript(true, long(out, 300)), row("CUE1", 1, 0, 172, 2, long(out, 300).Data, 3)},
	{"MaxData bytes less one", transcript(false, long(out, maxData-1)), row("CUE1", 1, 0, 255, 255, 3, long(out, maxData-1).Data)},
	{"MaxData bytes", transcript(true, long(out, maxData)), row("CUE1", 1, 0, 128, 128, 4, long(out, maxData).Data, 3)},
}

// P5.1: Encode.

func TestEncodeIsATranscriptsBytes(t *testing.T) {
	for _, c := range written {
		encodes(t, c.what, c.x, c.b)
	}
	encodes(t, "the zero transcript", api.Transcript{}, row(67, 85, 69, 49))
}

// many: so many events of so many bytes each.
func many(count, size int) []api.Event {
	var l []api.Event
	for i := range count {
		e := long(i%2, size)
		e.Time = int64(i % 3)
		l = append(l, e)
	}
	return l
}

// full: MaxWhole bytes together.
func full() []api.Event { return many(maxWhole/maxData, maxData) }

func TestEncodeAtTheLimits(t *testing.T) {
	for _, l := range [][]api.Event{
		many(maxCount-1, 0),
		many(maxCount, 0),
		many(maxCount, maxWhole/maxCount),
		full(),
		append(full(), ev(in, 0, ""), ev(out, 0, "")),
		append(full()[:3], long(in, maxData-1), ev(out, 0, "a")),
	} {
		for _, end := range []bool{false, true} {
			x := transcript(end, l...)
			encodes(t, "as much as may be", x, encodeAsAsked(x))
		}
	}
}

func TestEncodeOfADirThatIsNone(t *testing.T) {
	for _, dir := range []int{math.MinInt, -256, -2, -1, 2, 3, 7, 255, 256, 257, 1 << 32, 1<<32 + 1, math.MaxInt} {
		refuses(t, "another Dir", wrong, transcript(false, ev(dir, 0, "a")))
		refuses(t, "another Dir, without bytes", wrong, transcript(false, ev(dir, 0, "")))
		refuses(t, "another Dir behind others", wrong, transcript(false, ev(out, 0, "a"), ev(in, 0, "b"), ev(dir, 0, "a")))
		refuses(t, "another Dir ahead of others", wrong, transcript(false, ev(dir, 0, "a"), ev(in, 0, "b")))
	}
}

func TestEncodeOfTooMuch(t *testing.T) {
	refuses(t, "one more than MaxEvents", tooMany, transcript(false, many(maxCount+1, 0)...))
	refuses(t, "many more than MaxEvents", tooMany, transcript(false, many(2*maxCount, 3)...))
	for _, dir := range []int{out, in} {
		refuses(t, "one byte more than MaxData", tooLong, transcript(false, long(dir, maxData+1)))
		refuses(t, "one byte more than MaxData, behind others", tooLong, transcript(false, ev(out, 1, "a"), long(dir, maxData+1)))
		refuses(t, "more than MaxWhole at once", tooLong, transcript(false, long(dir, maxWhole+1)))
		refuses(t, "one byte more than MaxWhole", tooLong, transcript(false, append(full(), ev(dir, 0, "a"))...))
		refuses(t, "one byte more than MaxWhole, at the front", tooLong, transcript(false, append([]api.Event{ev(dir, 0, "a")}, full()...)...))
	}
}

// Of several errors the one that Check tells.
func TestEncodeTellsChecksFirstError(t *testing.T) {
	l := many(maxCount+1, 0)
	l[0].Dir = 9
	l[1] = long(out, maxData+1)
	refuses(t, "too many, and wrong ones", tooMany, transcript(false, l...))
	refuses(t, "a wrong one, a long one", wrong, transcript(false, ev(2, 0, ""), long(out, maxData+1)))
	refuses(t, "a long one, a wrong one", tooLong, transcript(false, long(out, maxData+1), ev(2, 0, "")))
	refuses(t, "a long one of another Dir", wrong, transcript(false, long(2, maxData+1)))
	refuses(t, "too much in all, then a wrong one", tooLong, transcript(false, append(full(), ev(in, 0, "x"), ev(2, 0, ""))...))
	refuses(t, "too much in all by a wrong one", wrong, transcript(false, append(full(), ev(2, 0, "x"))...))
}

// As the document's words say it, with the library's numbers; how far it is from Time to Time is reckoned without bounds, and brought into them.
func encodeAsAsked(x api.Transcript) []byte {
	b := []byte{67, 85, 69, 49}
	last := big.NewInt(0)
	for _, e := range x.Events {
		own := big.NewInt(e.Time)
		b = append(b, byte(1+e.Dir))
		b = binary.AppendUvarint(b, zigAsAsked(new(big.Int).Sub(own, last)))
		b = binary.AppendUvarint(b, uint64(len(e.Data)))
		b = append(b, e.Data...)
		last = own
	}
	if x.End {
		b = append(b, 3)
	}
	return b
}

func zigAsAsked(far *big.Int) uint64 {
	whole := new(big.Int).Lsh(big.NewInt(1), 64)
	if far.Cmp(big.NewInt(least)) < 0 {
		far = new(big.Int).Add(far, whole)
	}
	if far.Cmp(big.NewInt(greatest)) > 0 {
		far = new(big.Int).Sub(far, whole)
	}
	z := new(big.Int).Mul(far, big.NewInt(2))
	if far.Sign() < 0 {
		z.Neg(z).Sub(z, big.NewInt(1))
	}
	return z.Uint64()
}

// chance: numbers that look like such of chance, and are the same in each run.
type chance uint64

func (c *chance) next() uint64 {
	*c = *c*6364136223846793005 + 1442695040888963407
	x := uint64(*c)
	return x ^ x>>31
}

func (c *chance) below(n int) int { return int(c.next() >> 8 % uint64(n)) }

// someTime: among small ones and great ones, the bounds too.
func (c *chance) someTime() int64 {
	switch c.below(5) {
	case 0:
		return []int64{least, least + 1, -1, 0, 1, greatest - 1, greatest}[c.below(7)]
	case 1:
		return int64(c.next())
	default:
		return int64(c.next()) >> c.below(64)
	}
}

func (c *chance) someTranscript() api.Transcript {
	x := api.Transcript{End: c.below(2) == 1}
	for range c.below(7) {
		e := api.Event{Dir: c.below(2), Time: c.someTime()}
		for range c.below(4) * c.below(60) {
			e.Data = append(e.Data, byte(c.next()>>16))
		}
		x.Events = append(x.Events, e)
	}
	return x
}

func TestEncodeAsTheDocumentAsks(t *testing.T) {
	for _, c := range written {
		encodes(t, c.what, c.x, encodeAsAsked(c.x))
	}
	c := chance(1)
	for range 5000 {
		x := c.someTranscript()
		encodes(t, "some transcript", x, encodeAsAsked(x))
	}
	bounds := []int64{least, least + 1, -1 << 62, -2, -1, 0, 1, 2, 1 << 62, greatest - 1, greatest}
	for _, a := range bounds {
		for _, b := range bounds {
			x := transcript(false, ev(out, a, "a"), ev(in, b, "b"), ev(in, a, "c"))
			encodes(t, "Times at the bounds", x, encodeAsAsked(x))
		}
	}
}

// P5.2: Decode, of what is right.

func TestDecodeOfATranscriptsBytes(t *testing.T) {
	for _, c := range written {
		decodes(t, c.what, c.b, c.x)
	}
}

func TestDecodeAtTheLimits(t *testing.T) {
	for _, l := range [][]api.Event{
		many(maxCount-1, 0),
		many(maxCount, 0),
		many(maxCount, maxWhole/maxCount),
		full(),
		append(full(), ev(in, 0, ""), ev(out, 0, "")),
		append(full()[:3], long(in, maxData-1), ev(out, 0, "a")),
	} {
		for _, end := range []bool{false, true} {
			x := transcript(end, l...)
			decodes(t, "as much as may be", encodeAsAsked(x), x)
		}
	}
}

// P5.2: Decode, of what is wrong: the first four bytes.

func TestExamplesOfDecode(t *testing.T) {
	fails(t, "no bytes", nil, 0, tooShort)
	fails(t, "no bytes", []byte{}, 0, tooShort)
	fails(t, "67 85 70", []byte{67, 85, 70}, 2, noForm)
}

func TestTheFirstFourBytes(t *testing.T) {
	head := row("CUE1")
	for n := range head {
		fails(t, "the first bytes alone", head[:n], n, tooShort)
		for c := range 256 {
			if byte(c) == head[n] {
				continue
			}
			b := bytes.Clone(head)
			b[n] = byte(c)
			fails(t, "another one of the first four, the last one", b[:n+1], n, noForm)
			fails(t, "another one of the first four", b, n, noForm)
			fails(t, "another one of the first four, and what is wrong behind them", row(b, 9), n, noForm)
			fails(t, "another one of the first four, and an event", row(b, 1, 0, 0, 3), n, noForm)
		}
	}
	fails(t, "one of the first four left out", row("CE1", 1, 0, 0), 1, noForm)
	fails(t, "two wrong ones", row("CxyE"), 1, noForm)
	fails(t, "a wrong one, and too few", row("x"), 0, noForm)
	fails(t, "bytes ahead of the first four", row(0, "CUE1"), 0, noForm)
	fails(t, "a text in small letters", row("cue1"), 0, noForm)
	fails(t, "another number", row("CUE2"), 3, noForm)
}

// The first byte of an event.

func TestAnEventsFirstByte(t *testing.T) {
	ahead := row("CUE1", 2, 3, 2, "xy")
	for c := range 256 {
		if 1 <= c && c <= 3 {
			continue
		}
		fails(t, "a first byte that is none", row("CUE1", c), 4, noForm)
		fails(t, "a first byte that is none, and more", row("CUE1", c, 0, 0, 3), 4, noForm)
		fails(t, "a first byte that is none, behind an event", row(ahead, c), 9, noForm)
		fails(t, "a first byte that is none, behind an event, and more", row(ahead, c, 0, 0, 3, 3), 9, noForm)
	}
}

func TestTooManyEvents(t *testing.T) {
	b := encodeAsAsked(transcript(false, many(maxCount, 0)...))
	n := len(b)
	for _, first := range []int{1, 2} {
		fails(t, "one more", row(b, first), n, tooMany)
		fails(t, "one more, whole", row(b, first, 0, 0), n, tooMany)
		fails(t, "one more, and the end", row(b, first, 0, 0, 3), n, tooMany)
		fails(t, "one more, whose number is wrong", row(b, first, 128, 0), n, tooMany)
		fails(t, "one more, whose first byte isn't", row(b, 4, first), n, noForm)
		// As the last one of MaxEvents it may be.
		less := encodeAsAsked(transcript(false, many(maxCount-1, 0)...))
		x, at, e := trans.Decode(row(less, first, 0, 0))
		if e != fine || at != 0 || len(x.Events) != maxCount {
			t.Errorf("MaxEvents events: %d, at %d, %v", len(x.Events), at, e)
		}
	}
	decodes(t, "the end behind MaxEvents", row(b, 3), transcript(true, many(maxCount, 0)...))
	fails(t, "a byte behind that end", row(b, 3, 1), n+1, noForm)
	for _, c := range []int{0, 4, 128, 255} {
		fails(t, "neither an event nor the end behind MaxEvents", row(b, c), n, noForm)
	}
	// Something wrong ahead of them is told, not that they are too many.
	b[4] = 7
	fails(t, "a wrong one, and too many", row(b, 1, 0, 0), 4, noForm)
}

// wrongNumbers: bytes that begin with no number, whatever follows; Get's error of them.
var wrongNumbers = []struct {
	b []byte
	e api.Errno
}{
	{row(128, 0), noForm},                  // one byte more than 0 needs
	{row(129, 0), noForm},                  // one byte more than 1 needs
	{row(255, 128, 0), noForm},             // two bytes more
	{row(times(9, 128), 0), noForm},        // ten bytes, for 0
	{row(times(9, 255), 0), noForm},        // ten bytes, where nine are enough
	{row(times(9, 128), 2), noForm},        // 2^64
	{row(times(9, 255), 2), noForm},        // beyond 2^64
	{row(times(9, 255), 3), noForm},        // beyond 2^64
	{row(times(9, 255), 127), noForm},      // far beyond 2^64
	{times(10, 128), noForm},               // ten bytes that all go on
	{times(10, 255), noForm},               // the same
	{row(times(10, 255), 1), noForm},       // eleven bytes
	{row(times(9, 129), 128, 1), noForm},   // eleven bytes
	{row(times(20, 200), 0), noForm},       // many bytes
	{row(254, times(8, 255), 130), noForm}, // a tenth byte that goes on
}

// cutNumbers: beginnings of numbers' bytes, behind which there is nothing.
var cutNumbers = [][]byte{{}, {128}, {255}, {128, 128}, {172, 200}, times(8, 255), times(9, 128), times(9, 255)}

func TestAnEventsFirstNumber(t *testing.T) {
	for _, front := range [][]byte{row("CUE1"), row("CUE1", 2, 3, 2, "xy"), row("CUE1", 1, 0, 0, 2, 1, 1, 3)} {
		for _, first := range []int{1, 2} {
			at := len(front) + 1
			for _, c := range cutNumbers {
				fails(t, "a first number that is cut off", row(front, first, c), at, tooShort)
			}
			for _, c := range wrongNumbers {
				fails(t, "a wrong first number", row(front, first, c.b), at, c.e)
				fails(t, "a wrong first number, and more", row(front, first, c.b, 1, "a", 3), at, c.e)
				fails(t, "a wrong first number, and a wrong second one", row(front, first, c.b, 128, 0), at, c.e)
			}
		}
	}
}

func TestAnEventsSecondNumber(t *testing.T) {
	for _, front := range [][]byte{row("CUE1"), row("CUE1", 2, 3, 2, "xy"), row("CUE1", 1, 0, 0, 2, 1, 1, 3)} {
		for _, number := range [][]byte{{0}, {127}, {172, 2}, row(times(9, 255), 1), row(times(9, 128), 1)} {
			b := row(front, 1, number)
			for _, c := range cutNumbers {
				fails(t, "a second number that is cut off", row(b, c), len(b), tooShort)
			}
			for _, c := range wrongNumbers {
				fails(t, "a wrong second number", row(b, c.b), len(b), c.e)
				fails(t, "a wrong second number, and more", row(b, c.b, "a", 3), len(b), c.e)
			}
		}
	}
}

// number: a number's bytes, by the library.
func number(x uint64) []byte { return binary.AppendUvarint(nil, x) }

func TestASecondNumberAboveMaxData(t *testing.T) {
	b := row("CUE1", 1, 3, 1, "a", 2, 0)
	some := long(out, 2*maxData).Data
	for _, n := range []uint64{maxData + 1, maxData + 2, 2 * maxData, maxWhole, maxWhole + 1, 1 << 31, 1<<32 - 1, 1 << 32, 1<<32 + 1, 1<<63 - 1, 1 << 63, 1<<63 + 1, 1<<64 - 2, 1<<64 - 1} {
		fails(t, "a second number above MaxData", row(b, number(n)), len(b), tooLong)
		fails(t, "a second number above MaxData, and bytes", row(b, number(n), some), len(b), tooLong)
		fails(t, "a second number above MaxData, of the first event", row("CUE1", 2, 0, number(n), 3), 6, tooLong)
	}
	decodes(t, "a second number of MaxData", row(b, number(maxData), some[:maxData]), transcript(false, ev(out, -2, "a"), api.Event{Dir: in, Time: -2, Data: some[:maxData]}))
	// That there are too few is told only of a number that may be.
	all := row(b, number(maxData))
	fails(t, "MaxData, and no bytes", all, len(all), tooShort)
	all = row(all, some[:maxData-1])
	fails(t, "MaxData, and one byte fewer", all, len(all), tooShort)
}

func TestMoreThanMaxWhole(t *testing.T) {
	b := encodeAsAsked(transcript(false, full()...))
	at := len(b) + 2
	for _, n := range []uint64{1, 2, 127, 128, maxData, maxData + 1, maxWhole, 1 << 63, 1<<64 - 1} {
		fails(t, "more than MaxWhole", row(b, 1, 0, number(n)), at, tooLong)
		fails(t, "more than MaxWhole, and a byte", row(b, 2, 0, number(n), "a"), at, tooLong)
		fails(t, "more than MaxWhole, and events without bytes ahead", row(b, 2, 0, 0, 1, 0, 0, 2, 0, number(n), "a", 3), at+6, tooLong)
	}
	decodes(t, "no more than MaxWhole", row(b, 1, 3, 0, 3), transcript(true, append(full(), ev(out, -2, ""))...))
	short := append(full()[:3], long(in, maxData-5))
	b = encodeAsAsked(transcript(false, short...))
	at = len(b) + 2
	last := short[3].Time
	decodes(t, "MaxWhole, with the last five bytes", row(b, 1, 0, 5, "abcde"), transcript(false, append(short, ev(out, last, "abcde"))...))
	fails(t, "MaxWhole, and one byte more", row(b, 1, 0, 6, "abcdef"), at, tooLong)
	fails(t, "MaxWhole, and one byte fewer follows", row(b, 1, 0, 5, "abcd"), len(b)+7, tooShort)
	fails(t, "MaxWhole, and the next one", row(b, 1, 0, 5, "abcde", 2, 0, 1, "f"), len(b)+10, tooLong)
	fails(t, "MaxWhole, by two", row(b, 1, 0, 4, "abcd", 2, 0, 2, "ef"), len(b)+9, tooLong)
}

// The first one's bytes count as well as the others', and those of both directions together.
func TestMaxWholeInManyEvents(t *testing.T) {
	l := many(maxCount, maxWhole/maxCount)
	b := encodeAsAsked(transcript(false, l...))
	fails(t, "one more", row(b, 1, 0, 0), len(b), tooMany)
	for _, k := range []int{0, 1, 2000, maxCount - 1} {
		more := slices.Clone(l)
		more[k] = long(in, maxWhole/maxCount+1)
		// Its Times are near to one another: the last one's second number is its third byte.
		last := len(encodeAsAsked(transcript(false, more[:maxCount-1]...)))
		fails(t, "one byte more in one of them", encodeAsAsked(transcript(true, more...)), last+2, tooLong)
	}
}

func TestFewerBytesThanTheNumberSays(t *testing.T) {
	for _, size := range []int{1, 2, 3, 10, 127, 128, 300, 20000, maxData} {
		b := row("CUE1", 2, 1, number(uint64(size)))
		data := long(in, size).Data
		for _, n := range []int{0, 1, size / 2, size - 1} {
			if n < size {
				fails(t, "fewer bytes", row(b, data[:n]), len(b)+n, tooShort)
				fails(t, "fewer bytes, behind another event", row("CUE1", 1, 0, 1, "z", b[4:], data[:n]), len(b)+4+n, tooShort)
			}
		}
		x := transcript(false, api.Event{Dir: in, Time: -1, Data: data})
		decodes(t, "as many bytes", row(b, data), x)
		x.End = true
		decodes(t, "as many bytes, and the end", row(b, data, 3), x)
		fails(t, "as many bytes, and another one", row(b, data, 4), len(b)+size, noForm)
	}
	// A 3 that belongs to the event's bytes is no end.
	fails(t, "the end among the bytes", row("CUE1", 1, 0, 2, "a"), 8, tooShort)
	decodes(t, "a 3 as a byte", row("CUE1", 1, 0, 2, "a", 3), transcript(false, ev(out, 0, "a\x03")))
}

func TestBytesBehindTheEnd(t *testing.T) {
	for _, front := range [][]byte{row("CUE1"), row("CUE1", 2, 3, 2, "xy"), row("CUE1", 1, 0, 0, 2, 1, 1, 3)} {
		at := len(front) + 1
		for c := range 256 {
			fails(t, "a byte behind the end", row(front, 3, c), at, noForm)
		}
		fails(t, "an event behind the end", row(front, 3, 1, 0, 1, "a"), at, noForm)
		fails(t, "two ends", row(front, 3, 3), at, noForm)
		fails(t, "many ends", row(front, times(9, 3)), at, noForm)
		fails(t, "another transcript", row(front, 3, "CUE1", 3), at, noForm)
	}
}

// Of two wrong things the one that is nearer to the front.
func TestTheFirstWrongThing(t *testing.T) {
	fails(t, "a wrong number, a byte that is none", row("CUE1", 1, 128, 0, 9), 5, noForm)
	fails(t, "too long, and too short", row("CUE1", 1, 0, 129, 128, 4), 6, tooLong)
	fails(t, "too long, then a byte that is none", row("CUE1", 1, 0, 129, 128, 4, 9), 6, tooLong)
	fails(t, "too short, by bytes that would be wrong", row("CUE1", 1, 0, 5, 9, 9), 9, tooShort)
	fails(t, "a first number cut off, behind a right event", row("CUE1", 1, 0, 1, 9, 2, 255), 9, tooShort)
	fails(t, "a byte that is none, then a number cut off", row("CUE1", 9, 1, 255), 4, noForm)
	fails(t, "a byte behind the end, and a wrong event", row("CUE1", 3, 9, 1, 255), 5, noForm)
	fails(t, "a wrong event, and a byte behind the end", row("CUE1", 0, 3, 9), 4, noForm)
	fails(t, "a wrong first byte of all, and the rest", row("cUE1", 0, 3, 9), 0, noForm)
	fails(t, "two wrong numbers", row("CUE1", 1, times(10, 255), 128, 0), 5, noForm)
	fails(t, "a right number, one cut off", row("CUE1", 1, 172, 2, 255), 7, tooShort)
}

// As the document's words say it.

// getAsAsked: layer 2's Get at a place of b.
func getAsAsked(b []byte, at int) (uint64, int, api.Errno) {
	b = b[at:]
	n := slices.IndexFunc(b, func(c byte) bool { return c < 128 })
	if n >= 10 || n < 0 && len(b) >= 10 {
		return 0, 0, noForm
	}
	if n < 0 {
		return 0, 0, tooShort
	}
	sum := new(big.Int)
	for i, c := range b[:n+1] {
		sum.Add(sum, new(big.Int).Lsh(big.NewInt(int64(c%128)), uint(7*i)))
	}
	if !sum.IsUint64() || !bytes.Equal(number(sum.Uint64()), b[:n+1]) {
		return 0, 0, noForm
	}
	return sum.Uint64(), at + n + 1, fine
}

func decodeAsAsked(b []byte) (api.Transcript, int, api.Errno) {
	none := api.Transcript{}
	for i, c := range []byte{67, 85, 69, 49} {
		if len(b) == i {
			return none, i, tooShort
		}
		if b[i] != c {
			return none, i, noForm
		}
	}
	var x api.Transcript
	time, sum := big.NewInt(0), uint64(0)
	for at := 4; at < len(b); {
		first := b[at]
		if first < 1 || first > 3 {
			return none, at, noForm
		}
		if first == 3 && at+1 < len(b) {
			return none, at + 1, noForm
		}
		if first == 3 {
			x.End = true
			return x, 0, fine
		}
		if len(x.Events) == maxCount {
			return none, at, tooMany
		}
		far, second, e := getAsAsked(b, at+1)
		if e != fine {
			return none, at + 1, e
		}
		n, from, e := getAsAsked(b, second)
		if e != fine {
			return none, second, e
		}
		if n > maxData || sum+n > maxWhole {
			return none, second, tooLong
		}
		if uint64(from)+n > uint64(len(b)) {
			return none, len(b), tooShort
		}
		time = addAsAsked(time, far)
		at = from + int(n)
		sum += n
		x.Events = append(x.Events, api.Event{Dir: int(first) - 1, Time: time.Int64(), Data: bytes.Clone(b[from:at])})
	}
	return x, 0, fine
}

// addAsAsked: the time that is as far from one as the number says whose Zig is z, within the bounds.
func addAsAsked(time *big.Int, z uint64) *big.Int {
	far := new(big.Int).SetUint64(z / 2)
	if z%2 == 1 {
		far.Neg(far).Sub(far, big.NewInt(1))
	}
	whole := new(big.Int).Lsh(big.NewInt(1), 64)
	sum := new(big.Int).Add(time, far)
	if sum.Cmp(big.NewInt(least)) < 0 {
		sum.Add(sum, whole)
	}
	if sum.Cmp(big.NewInt(greatest)) > 0 {
		sum.Sub(sum, whole)
	}
	return sum
}

// asAsked: what Decode answers is what the document asks for; if these are a transcript's bytes, they are told again.
func asAsked(t *testing.T, b []byte) bool {
	t.Helper()
	x, at, e := trans.Decode(b)
	wantX, wantAt, wantE := decodeAsAsked(b)
	if e != wantE || at != wantAt || !equal(x, wantX) {
		t.Fatalf("Decode(%v): %v, at %d, %v, wanted %v, at %d, %v", brief(b), x, at, e, wantX, wantAt, wantE)
	}
	if e != fine {
		return false
	}
	if again, e := trans.Encode(x); e != fine || !bytes.Equal(again, b) {
		t.Fatalf("Encode of what Decode(%v) tells: %v, %v", brief(b), brief(again), e)
	}
	return true
}

// All short rows of some bytes behind the first four: P5.2, and the second half of P5.3.
func TestDecodeOfAllShortRows(t *testing.T) {
	right := 0
	var grow func(b []byte, more int)
	grow = func(b []byte, more int) {
		if asAsked(t, b) {
			right++
		}
		if more > 0 {
			for _, c := range []byte{0, 1, 2, 3, 4, 128, 255} {
				grow(append(slices.Clip(b), c), more-1)
			}
		}
	}
	grow(row("CUE1"), 6)
	if right < 1000 {
		t.Errorf("%d of them are a transcript's: too few to tell anything", right)
	}
}

func TestDecodeOfBeginningsAndOfOtherBytes(t *testing.T) {
	c := chance(2)
	for range 300 {
		b := encodeAsAsked(c.someTranscript())
		for n := range len(b) + 1 {
			asAsked(t, b[:n])
		}
		for range 200 {
			d := bytes.Clone(b)
			for range 1 + c.below(3) {
				d[c.below(len(d))] = []byte{0, 1, 2, 3, 127, 128, 255, byte(c.next())}[c.below(8)]
			}
			asAsked(t, d)
			k := c.below(len(b) + 1)
			asAsked(t, row(b[:k], int(c.next()%256), b[k:])) // one more
			asAsked(t, slices.Delete(bytes.Clone(b), min(k, len(b)-1), min(k, len(b)-1)+1))
		}
	}
}

func TestDecodeOfBytesOfAnyKind(t *testing.T) {
	c := chance(3)
	for i := range 20000 {
		var b []byte
		if i%4 > 0 {
			b = row("CUE1")
		}
		for range c.below(40) {
			b = append(b, byte(c.next()>>c.below(60)))
		}
		asAsked(t, b)
	}
}

// P5.3: both ways.

func TestWhatIsEncodedIsDecoded(t *testing.T) {
	back := func(x api.Transcript) {
		t.Helper()
		b, e := trans.Encode(x)
		if e != fine {
			t.Fatalf("Encode: %v", e)
		}
		y, at, e := trans.Decode(b)
		if e != fine || at != 0 || !equal(x, y) {
			t.Fatalf("%v: %v, at %d, %v", x, y, at, e)
		}
	}
	for _, c := range written {
		back(c.x)
	}
	back(transcript(true, many(maxCount, maxWhole/maxCount)...))
	back(transcript(false, full()...))
	c := chance(4)
	for range 20000 {
		back(c.someTranscript())
	}
}

func TestWhatIsDecodedIsEncoded(t *testing.T) {
	for _, c := range written {
		if !asAsked(t, c.b) {
			t.Errorf("%s: it is right", c.what)
		}
	}
	c := chance(5)
	for range 5000 {
		if b := encodeAsAsked(c.someTranscript()); !asAsked(t, b) {
			t.Errorf("%v: it is right", b)
		}
	}
}

// No two transcripts have the same bytes.
func TestTranscriptsThatDifferHaveOtherBytes(t *testing.T) {
	seen := map[string]api.Transcript{}
	c := chance(6)
	for range 20000 {
		x := c.someTranscript()
		b, _ := trans.Encode(x)
		if y, ok := seen[string(b)]; ok && !equal(x, y) {
			t.Fatalf("%v and %v: %v", x, y, b)
		}
		seen[string(b)] = x
	}
}

// DOC.md, rules 4 and 7, and P2: memory.

const spare = "spare"

// guarded: a transcript whose lists have known memory behind their lengths, and what it was.
type guarded struct {
	whole  []api.Event // the events, and one more behind them
	x      api.Transcript
	before api.Transcript
}

func guard(x api.Transcript) guarded {
	whole := make([]api.Event, len(x.Events)+1)
	for i, e := range x.Events {
		whole[i] = e
		whole[i].Data = append(bytes.Clone(e.Data), spare...)[:len(e.Data)]
	}
	whole[len(x.Events)] = ev(out, 77, "behind")
	return guarded{whole, transcript(x.End, whole[:len(x.Events)]...), plain(x)}
}

// untouched: all is as it was, also behind the lengths.
func (g guarded) untouched(t *testing.T, what string) {
	t.Helper()
	if !equal(g.x, g.before) {
		t.Errorf("%s made %v of %v", what, g.x, g.before)
	}
	for _, e := range g.x.Events {
		if n := len(e.Data); string(e.Data[:n+len(spare)][n:]) != spare {
			t.Errorf("%s wrote behind the length of %v", what, e)
		}
	}
	if last := g.whole[len(g.x.Events)]; last.Time != 77 || string(last.Data) != "behind" {
		t.Errorf("%s wrote behind the events", what)
	}
}

func spoilBytes(b []byte) {
	b = b[:cap(b)]
	for i := range b {
		b[i] = '!'
	}
}

// spoil writes into all the memory that events have, also behind their lengths.
func spoil(l []api.Event) {
	l = l[:cap(l)]
	for i := range l {
		spoilBytes(l[i].Data)
		l[i] = ev(5, 5, "spoilt")
	}
}

func TestEncodeSharesNoMemory(t *testing.T) {
	for _, c := range written {
		g := guard(c.x)
		first, _ := trans.Encode(g.x)
		second, _ := trans.Encode(g.x)
		g.untouched(t, "Encode of "+c.what)
		if d := first[:cap(first)]; bytes.Contains(d, []byte(spare)) || bytes.Contains(d, []byte("behind")) {
			t.Errorf("Encode of %s handed out what is behind a length", c.what)
		}
		spoilBytes(second)
		g.untouched(t, "what Encode answered of "+c.what)
		spoil(g.whole)
		if !bytes.Equal(first, c.b) {
			t.Errorf("Encode of %s: %v, when others were spoilt", c.what, brief(first))
		}
		encodes(t, c.what+", again", c.x, c.b)
	}
}

func TestARefusedEncodeChangesNothing(t *testing.T) {
	for _, x := range []api.Transcript{transcript(true, ev(out, 1, "a"), ev(2, 2, "b")), transcript(false, ev(in, 1, "a"), long(out, maxData+1)), transcript(true, many(maxCount+1, 1)...)} {
		g := guard(x)
		trans.Encode(g.x)
		g.untouched(t, "a refused Encode")
		encodes(t, "what is right, behind that", written[3].x, written[3].b)
	}
}

func TestDecodeSharesNoMemory(t *testing.T) {
	for _, c := range written {
		whole := row(c.b, spare)
		b := whole[:len(c.b)]
		first, _, _ := trans.Decode(b)
		second, _, _ := trans.Decode(b)
		for _, e := range second.Events {
			if bytes.Contains(e.Data[:cap(e.Data)], []byte(spare)) {
				t.Errorf("Decode of %s handed out what is behind its length", c.what)
			}
		}
		spoil(second.Events)
		if !bytes.Equal(whole, row(c.b, spare)) {
			t.Errorf("Decode of %s, or what is done with its answer, changed what was handed in", c.what)
		}
		spoilBytes(whole)
		if !equal(first, c.x) {
			t.Errorf("Decode of %s: %v, when others were spoilt", c.what, first)
		}
		decodes(t, c.what+", again", c.b, c.x)
	}
}

// What stands behind b's length isn't read: neither an event's bytes, nor what would follow.
func TestDecodeReadsNothingBehindALength(t *testing.T) {
	all := row("CUE1", 1, 172, 2, 2, "ab", 3)
	for n := range len(all) {
		b := all[:n]
		_, at, e := trans.Decode(b)
		_, wantAt, wantE := decodeAsAsked(slices.Clip(b))
		if at != wantAt || e != wantE {
			t.Errorf("Decode(%v): at %d, %v, wanted at %d, %v", b, at, e, wantAt, wantE)
		}
	}
	decodes(t, "what has an end behind its length", all[:len(all)-1], transcript(false, ev(out, 150, "ab")))
}

func TestARefusedDecodeChangesNothing(t *testing.T) {
	for _, all := range [][]byte{row("CUx1", spare), row("CUE1", 1, 2, 1, "a", 1, 128, 0, spare), row("CUE1", 1, 2, 1, "a", 3, 3, spare)} {
		b := all[:len(all)-len(spare)]
		before := bytes.Clone(all)
		if _, _, e := trans.Decode(b); e != noForm {
			t.Errorf("Decode(%v): %v", b, e)
		}
		if !bytes.Equal(all, before) {
			t.Errorf("a refused Decode made %v of %v", all, before)
		}
		decodes(t, "what is right, behind that", written[3].b, written[3].x)
	}
}

// The lists of one answer are apart: to write into one, up to its capacity, or to append to it, changes no other.
func TestListsOfOneAnswerAreApart(t *testing.T) {
	b := encodeAsAsked(transcript(true, ev(out, 1, "ab"), ev(in, 2, "cd"), ev(out, 3, ""), ev(in, 4, "efg")))
	for k := range 4 {
		x, _, _ := trans.Decode(b)
		want := plain(x)
		want.Events[k].Data = nil
		spoilBytes(append(x.Events[k].Data, "zzz"...))
		spoilBytes(x.Events[k].Data)
		x.Events[k].Data = nil
		if !equal(x, want) {
			t.Errorf("the one at %d was spoilt: %v, wanted %v", k, x, want)
		}
	}
}

// What is asked again is answered again, whatever was asked between.
func TestAnswersHangOnArgumentsAlone(t *testing.T) {
	for range 3 {
		for _, c := range written {
			encodes(t, c.what, c.x, c.b)
			trans.Encode(transcript(true, ev(9, 9, "q")))
			decodes(t, c.what, c.b, c.x)
			fails(t, "what is wrong", row("CUE1", 1, 9, 1, "q", 9), 8, noForm)
		}
	}
}
