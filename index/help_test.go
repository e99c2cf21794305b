package index

import (
	"bytes"
	"encoding/binary"
	"fmt"
	"hash/crc32"
	"math"
	"math/rand"
	"slices"
	"strings"
	"testing"

	"pursuivant/api"
	"pursuivant/codec"
	"pursuivant/event"
)

// number is the encoding of a number.
func number(n uint64) []byte {
	return binary.AppendUvarint(nil, n)
}

// four is a number as four bytes, the least significant first.
func four(n uint32) []byte {
	return binary.LittleEndian.AppendUint32(nil, n)
}

// piece is bytes as one piece.
func piece(b []byte) []byte {
	out := append(number(uint64(len(b))), b...)
	return append(out, four(crc32.ChecksumIEEE(out))...)
}

// inPieces is bytes in pieces.
func inPieces(b []byte) []byte {
	var out []byte
	for part := range slices.Chunk(b, 256) {
		out = append(out, piece(part)...)
	}
	return append(out, piece(nil)...)
}

// last is the last eight bytes of a transcript.
func last(offset uint32) []byte {
	return append(four(offset), four(crc32.ChecksumIEEE(four(offset)))...)
}

// content is the encodings of events with a new Book.
func content(t testing.TB, list ...api.Event) []byte {
	t.Helper()
	var out []byte
	book := event.New()
	for _, x := range list {
		b, e := book.Put(nil, x)
		if e != api.OK {
			t.Fatalf("the event %s is not written: %d", show(x), e)
		}
		out = append(out, b...)
	}
	return out
}

// fails is the content of a group of events at a time.
func fails(t testing.TB, many, tick int) []byte {
	t.Helper()
	return content(t, slices.Repeat([]api.Event{fail(3, tick)}, many)...)
}

// draft is what a transcript is made of, right or wrong.
type draft struct {
	start   []byte
	groups  []byte // their encodings
	many    []byte // what the footer consists of
	lengths [][]byte
	more    []byte
	pieces  func(foot []byte) []byte
	behind  []byte // ahead of the last eight bytes
	offset  func(n int) uint32
	sum     uint32 // what is wrong of the checksum
}

// drafted is the draft of a transcript of groups with such contents.
func drafted(many int, contents ...[]byte) *draft {
	d := &draft{start: []byte{80, 86, 49}, many: number(uint64(many)), pieces: inPieces, offset: func(n int) uint32 { return uint32(n) }}
	for _, b := range contents {
		d.group(inPieces(b))
	}
	return d
}

// group appends a group with such an encoding.
func (d *draft) group(b []byte) {
	d.groups = append(d.groups, b...)
	d.lengths = append(d.lengths, number(uint64(len(b))))
}

// write puts all parts together.
func (d *draft) write() []byte {
	out := slices.Concat(d.start, d.groups)
	at := d.offset(len(out))
	foot := slices.Concat(d.many, slices.Concat(d.lengths...), d.more)
	out = slices.Concat(out, d.pieces(foot), d.behind, four(at))
	return append(out, four(crc32.ChecksumIEEE(four(at))^d.sum)...)
}

// fail returns an event that needs three bytes, if it is at most 127 later than
// the one before it.
func fail(session, tick int) api.Event {
	return api.Event{Kind: api.EvFail, Session: session, Tick: tick}
}

// draws returns events with numbers of their own, the last ones of which are
// later.
func draws(many int) []api.Event {
	var out []api.Event
	for i := range many {
		out = append(out, api.Event{Kind: api.EvDraw, Session: i % 3, Tick: i / 5, N: uint64(i)})
	}
	return out
}

// mixed returns events of all kinds.
func mixed(many int) []api.Event {
	list := lines("A: 1", "b: 2", "A: 3")
	var out []api.Event
	for i := range many {
		n, headers := i%4, list[:i%len(list)]
		out = append(out, []api.Event{
			{Kind: 1, Session: n, Method: "GET", URL: long(i % 50), Headers: headers, Body: long(i % 2049), Code: 1 + 4 + 16 + 64, Nonce: "n"},
			{Kind: 2, Session: n, Method: "PUT", URL: "http://b/", Headers: headers, Code: 2, Cred: i%2 == 0, N: uint64(i) << 40},
			{Kind: 3, Session: n, Headers: headers, Body: "body", Status: 200 + n},
			{Kind: 4, Session: 1 << 20},
			{Kind: 5, N: uint64(i)},
			{Kind: 6, Session: n, N: 1 << 63},
			{Kind: 7, Session: n, Status: i % 600, Code: 16},
		}[i%7])
		out[i].Tick = i * i
	}
	return out
}

// ticking returns events at these times, with numbers of their own.
func ticking(ticks ...int) []api.Event {
	var out []api.Event
	for i, tick := range ticks {
		out = append(out, api.Event{Kind: api.EvDraw, Session: 1, Tick: tick, N: uint64(i)})
	}
	return out
}

// lines returns the headers that are written as name: value.
func lines(texts ...string) []api.Header {
	var out []api.Header
	for _, text := range texts {
		name, value, _ := strings.Cut(text, ": ")
		out = append(out, api.Header{Name: name, Value: value})
	}
	return out
}

// long returns a string of a length that no part of another one repeats soon.
func long(size int) string {
	var out strings.Builder
	for i := 0; out.Len() < size; i++ {
		fmt.Fprint(&out, i, string([]byte{byte(i), byte(i * 7), byte(i >> 3)}))
	}
	return out.String()[:size]
}

// show writes out anything, as far as a line has room for it.
func show(x any) string {
	return fmt.Sprintf("%.900s", fmt.Sprintf("%+v", x))
}

// same compares all fields, each with its own.
func same(a, b api.Event) bool {
	return a.Kind == b.Kind && a.Session == b.Session && a.Tick == b.Tick && a.Method == b.Method && a.URL == b.URL && slices.Equal(a.Headers, b.Headers) &&
		a.Body == b.Body && a.Status == b.Status && a.Code == b.Code && a.Cred == b.Cred && a.Nonce == b.Nonce && a.N == b.N
}

// fill overwrites items and what lies behind their length.
func fill[T any](list []T, with T) {
	list = list[:cap(list)]
	for i := range list {
		list[i] = with
	}
}

// whole returns a copy of a slice and of what lies behind its length.
func whole[T any](list []T) []T {
	return slices.Clone(list[:cap(list)])
}

// spare returns a copy of a slice, with items behind its length.
func spare[T any](list []T, behind T) []T {
	return slices.Concat(list, slices.Repeat([]T{behind}, 60))[:len(list)]
}

// opened is an Index whose calls are compared with what the chapter says of
// codec's functions, for the bytes as they were when it was opened.
type opened struct {
	t      testing.TB
	x      *Index
	b      []byte
	many   int
	groups []read
	all    []api.Event // what Decode returns
	right  bool        // whether it accepts the bytes
}

// read is what Group returns for a group.
type read struct {
	list []api.Event
	e    api.Errno
}

// open opens bytes, which must lead to codec's own error. Behind that, it changes
// all of them.
func open(t testing.TB, b []byte) (*opened, api.Errno) {
	t.Helper()
	arg := spare(b, 77)
	before := whole(arg)
	x, e := Open(arg)
	other, otherE := Open(arg)
	many, places, want := codec.Foot(b)
	if e != want || otherE != want || (x == nil) != (want != api.OK) || (other == nil) != (want != api.OK) {
		t.Fatalf("Open(%s) = %v, %d, then %v, %d, want the error %d", show(b), x, e, other, otherE, want)
	}
	if !bytes.Equal(whole(arg), before) {
		t.Fatalf("Open changed the bytes %s", show(b))
	}
	if want != api.OK {
		return nil, want
	}
	fill(arg, 99)
	o := &opened{t: t, x: x, b: b, many: many}
	rest := many
	for i := range len(places) - 1 {
		list, e := codec.Group(b, places[i], places[i+1], min(32, rest))
		o.groups = append(o.groups, read{list, e})
		rest -= 32
	}
	o.all, want = codec.Decode(b)
	o.right = want == api.OK
	if got := o.count(); got != other.Count() {
		t.Fatalf("two Indexes of the bytes %s have %d and %d events", show(b), got, other.Count())
	}
	return o, api.OK
}

// right opens the transcript of events that are so.
func right(t testing.TB, list []api.Event) *opened {
	t.Helper()
	b, e := codec.Encode(list)
	if e != api.OK {
		t.Fatalf("Encode(%s) returns the error %d", show(list), e)
	}
	return must(t, b)
}

// must opens bytes whose foot is right.
func must(t testing.TB, b []byte) *opened {
	t.Helper()
	o, e := open(t, b)
	if e != api.OK {
		t.Fatalf("Open(%s) returns the error %d", show(b), e)
	}
	return o
}

// count compares Count with what the footer says, twice.
func (o *opened) count() int {
	o.t.Helper()
	for range 2 {
		if got := o.x.Count(); got != o.many {
			o.t.Fatalf("Count of %s = %d, want %d", show(o.b), got, o.many)
		}
	}
	return o.many
}

// expected is what At should return.
func (o *opened) expected(i int) (api.Event, api.Errno) {
	if i < 0 || i >= o.many {
		return api.Event{}, api.ErrRange
	}
	groups := o.groups
	for ; i >= 32; i -= 32 {
		groups = groups[1:]
	}
	if e := groups[0].e; e != api.OK {
		return api.Event{}, e
	}
	return groups[0].list[i], api.OK
}

// at compares At with what it should return, thrice. Its results are new memory:
// it changes the headers of each while it still has another one.
func (o *opened) at(i int) (api.Event, api.Errno) {
	o.t.Helper()
	want, wantE := o.expected(i)
	check := func(got api.Event, e api.Errno) {
		o.t.Helper()
		if !same(got, want) || e != wantE {
			o.t.Fatalf("At(%d) of %s = %s, %d, want %s, %d", i, show(o.b), show(got), e, show(want), wantE)
		}
	}
	first, e := o.x.At(i)
	check(first, e)
	second, f := o.x.At(i)
	check(second, f)
	fill(first.Headers, api.Header{Name: "filled", Value: "1"})
	check(second, f)
	fill(second.Headers, api.Header{Name: "filled", Value: "2"})
	check(o.x.At(i))
	return want, wantE
}

// wholly compares Count, and At for all events and those around them.
func (o *opened) wholly() {
	o.t.Helper()
	o.count()
	for i := -2; i < o.many+2; i++ {
		o.at(i)
	}
	o.count()
}

// first compares First with a search from the beginning, twice, or, for bytes
// that Decode does not accept, only one of two results with the other one.
func (o *opened) first(tick int) (int, api.Errno) {
	o.t.Helper()
	n, e := o.x.First(tick)
	again, f := o.x.First(tick)
	if n != again || e != f || e != api.OK && n != 0 {
		o.t.Fatalf("First(%d) of %s = %d, %d, then %d, %d", tick, show(o.b), n, e, again, f)
	}
	if !o.right {
		return n, e
	}
	want := 0
	for want < len(o.all) && o.all[want].Tick < tick {
		want++
	}
	if n != want || e != api.OK {
		o.t.Fatalf("First(%d) of %s = %d, %d, want %d", tick, show(o.b), n, e, want)
	}
	return n, e
}

// around compares First for the times of all events and those beside them, and
// for far ones.
func (o *opened) around() {
	o.t.Helper()
	for _, tick := range []int{math.MinInt, math.MinInt + 1, -1 << 40, -1 << 32, -2, -1, 0, 1, 2, 1<<32 - 1, 1 << 32, 1<<40 - 1, 1 << 40, 1<<40 + 1, math.MaxInt - 1, math.MaxInt} {
		o.first(tick)
	}
	tick := -1
	for _, x := range o.all {
		if x.Tick != tick {
			tick = x.Tick
			o.first(tick - 1)
			o.first(tick)
			o.first(tick + 1)
		}
	}
}

func pick[T any](r *rand.Rand, list ...T) T {
	return list[r.Intn(len(list))]
}

// randomText returns a text that is often one of a few.
func randomText(r *rand.Rand, most int) string {
	switch r.Intn(40) {
	case 0:
		return long(r.Intn(most + 1))
	case 1:
		return string([]byte{byte(r.Intn(256))})
	}
	return pick(r, "", "a", "b", "A", "ab", "\x00", "GET")
}

// randomHeaders returns headers that are often alike.
func randomHeaders(r *rand.Rand) []api.Header {
	var out []api.Header
	for range r.Intn(pick(r, 1, 3, 4, 26)) {
		out = append(out, api.Header{Name: randomText(r, 512), Value: randomText(r, 2048)})
	}
	return out
}

// randomEvent returns a valid event.
func randomEvent(r *rand.Rand, tick int) api.Event {
	n := pick(r, 0, 1, 2, 7, 1<<20)
	switch r.Intn(7) {
	case 0:
		return api.Event{Kind: 1, Session: n, Tick: tick, Method: randomText(r, 512), URL: randomText(r, 2048), Headers: randomHeaders(r), Body: randomText(r, 2048), Nonce: randomText(r, 512),
			Code: r.Intn(3) + 1 + 4*(r.Intn(3)+1) + 16*(r.Intn(3)+1) + 64*(r.Intn(10)+1)}
	case 1:
		return api.Event{Kind: 2, Session: n, Tick: tick, Method: randomText(r, 512), URL: randomText(r, 2048), Headers: randomHeaders(r), Body: randomText(r, 2048), Code: r.Intn(2) + 1, Cred: r.Intn(2) == 0, N: r.Uint64() >> r.Intn(64)}
	case 2:
		return api.Event{Kind: 3, Session: n, Tick: tick, Headers: randomHeaders(r), Body: randomText(r, 2048), Status: r.Intn(500) + 100}
	case 3:
		return api.Event{Kind: 5, Tick: tick, N: r.Uint64() >> (24 + r.Intn(40))}
	case 4:
		return api.Event{Kind: 6, Session: n, Tick: tick, N: r.Uint64() >> r.Intn(64)}
	case 5:
		return api.Event{Kind: 7, Session: n, Tick: tick, Code: r.Intn(16) + 1, Status: r.Intn(600)}
	}
	return fail(n, tick)
}

// randomList returns valid events whose times do not decrease, and are often the
// same.
func randomList(r *rand.Rand, many int) []api.Event {
	var out []api.Event
	tick := 0
	rare := pick(r, 1, 2, 5, 40)
	for range many {
		if r.Intn(rare) == 0 {
			tick = min(tick+pick(r, 0, 1, 2, r.Intn(300), 1<<30), 1<<40)
		}
		out = append(out, randomEvent(r, tick))
	}
	return out
}

// randomMany returns a number of events that is often near the ends of groups.
func randomMany(r *rand.Rand) int {
	return max(0, pick(r, 0, 0, 1, 2, 3, 4)*32+r.Intn(5)-2+pick(r, 0, 0, 0, r.Intn(30)))
}
