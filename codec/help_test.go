package codec

import (
	"bytes"
	"encoding/binary"
	"fmt"
	"hash/crc32"
	"math/big"
	"slices"
	"strings"
	"testing"

	"pursuivant/api"
	"pursuivant/event"
)

// number is the encoding of a number.
func number(n uint64) []byte {
	return binary.AppendUvarint(nil, n)
}

// numbers is the encodings of numbers.
func numbers(list ...uint64) []byte {
	var out []byte
	for _, n := range list {
		out = append(out, number(n)...)
	}
	return out
}

// four is a number as four bytes, the least significant first.
func four(n uint32) []byte {
	return binary.LittleEndian.AppendUint32(nil, n)
}

// piece is bytes as one piece.
func piece(b []byte) []byte {
	out := append(number(uint64(len(b))), b...)
	return append(out, four(crc32.ChecksumIEEE(out))...)
}

// inPieces is bytes in pieces.
func inPieces(b []byte) []byte {
	var out []byte
	for part := range slices.Chunk(b, 256) {
		out = append(out, piece(part)...)
	}
	return append(out, piece(nil)...)
}

// last is the last eight bytes of a transcript.
func last(offset uint32) []byte {
	return append(four(offset), four(crc32.ChecksumIEEE(four(offset)))...)
}

// content is the encodings of events with a new Book.
func content(t testing.TB, list ...api.Event) []byte {
	t.Helper()
	var out []byte
	book := event.New()
	for _, x := range list {
		b, e := book.Put(nil, x)
		if e != api.OK {
			t.Fatalf("the event %s is not written: %d", show(x), e)
		}
		out = append(out, b...)
	}
	return out
}

// draft is what a transcript is made of, right or wrong.
type draft struct {
	start   []byte
	groups  []byte // their encodings
	many    []byte // what the footer consists of
	lengths [][]byte
	more    []byte
	pieces  func(foot []byte) []byte
	behind  []byte // ahead of the last eight bytes
	offset  func(n int) uint32
	sum     uint32 // what is wrong of the checksum
}

// drafted is the draft of a transcript of groups with such contents.
func drafted(many int, contents ...[]byte) *draft {
	d := &draft{start: []byte{80, 86, 49}, many: number(uint64(many)), pieces: inPieces, offset: func(n int) uint32 { return uint32(n) }}
	for _, b := range contents {
		d.group(inPieces(b))
	}
	return d
}

// group appends a group with such an encoding.
func (d *draft) group(b []byte) {
	d.groups = append(d.groups, b...)
	d.lengths = append(d.lengths, number(uint64(len(b))))
}

// write puts all parts together.
func (d *draft) write() []byte {
	out := slices.Concat(d.start, d.groups)
	at := d.offset(len(out))
	foot := slices.Concat(d.many, slices.Concat(d.lengths...), d.more)
	out = slices.Concat(out, d.pieces(foot), d.behind, four(at))
	return append(out, four(crc32.ChecksumIEEE(four(at))^d.sum)...)
}

// plainEncode is a model of Encode, which looks for errors first.
func plainEncode(t testing.TB, list []api.Event) ([]byte, api.Errno) {
	if len(list) > 4096 {
		return nil, api.ErrOver
	}
	for i, x := range list {
		if !event.Good(x) {
			return nil, api.ErrForm
		}
		if i > 0 && x.Tick < list[i-1].Tick {
			return nil, api.ErrOrder
		}
	}
	d := drafted(len(list))
	for ; len(list) > 0; list = list[min(32, len(list)):] {
		d.group(inPieces(content(t, list[:min(32, len(list))]...)))
	}
	return d.write(), api.OK
}

// stop is an error that ends a model.
type stop api.Errno

// stopped runs a model, and returns the error that ends it.
func stopped(model func()) (e api.Errno) {
	defer func() {
		if v := recover(); v != nil {
			e = api.Errno(v.(stop))
		}
	}()
	model()
	return api.OK
}

// must ends a model with an error, but where a condition holds.
func must(holds bool, e api.Errno) {
	if !holds {
		panic(stop(e))
	}
}

// takeNumber returns the number at the start of some bytes, of which it leaves
// those behind it.
func takeNumber(b *[]byte) uint64 {
	size := slices.IndexFunc(*b, func(c byte) bool { return c < 128 }) + 1
	n, read := binary.Uvarint(*b)
	must(size > 0 || len(*b) >= 10, api.ErrShort)
	must(size > 0 && read == size && bytes.Equal((*b)[:size], number(n)), api.ErrForm)
	*b = (*b)[size:]
	return n
}

// takePieces returns the bytes that are in pieces at the start of some bytes, of
// which it leaves those behind them.
func takePieces(b *[]byte) []byte {
	var out []byte
	for size := uint64(256); ; {
		was, rest := size, *b
		size = takeNumber(&rest)
		must(size <= 256, api.ErrOver)
		must(size == 0 || was == 256, api.ErrOrder)
		must(uint64(len(rest)) >= size+4, api.ErrShort)
		part := rest[:size]
		must(bytes.HasPrefix(*b, piece(part)), api.ErrSum)
		*b = (*b)[len(piece(part)):]
		out = append(out, part...)
		if size == 0 {
			return out
		}
	}
}

// plainFoot is a model of Foot, which adds lengths without bounds.
func plainFoot(b []byte) (many int, places []int, e api.Errno) {
	e = stopped(func() { many, places = footOf(b) })
	return many, places, e
}

func footOf(b []byte) (int, []int) {
	must(len(b) >= 11, api.ErrShort)
	must(string(b[:3]) == "PV1", api.ErrText)
	rest, offset := b[:len(b)-8], binary.LittleEndian.Uint32(b[len(b)-8:])
	must(bytes.HasSuffix(b, last(offset)), api.ErrSum)
	must(offset >= 3 && int64(offset) <= int64(len(rest)), api.ErrRange)
	rest = rest[offset:]
	foot := takePieces(&rest)
	must(len(rest) == 0, api.ErrMore)
	many := takeNumber(&foot)
	must(many <= 4096, api.ErrOver)
	sums := []*big.Int{big.NewInt(3)}
	for i := uint64(0); i < many; i += 32 {
		n := new(big.Int).SetUint64(takeNumber(&foot))
		sums = append(sums, n.Add(n, sums[len(sums)-1]))
	}
	must(len(foot) == 0, api.ErrMore)
	must(sums[len(sums)-1].Cmp(big.NewInt(int64(offset))) == 0, api.ErrRange)
	var places []int
	for _, n := range sums {
		places = append(places, int(n.Int64()))
	}
	return int(many), places
}

// plainGroup is a model of Group.
func plainGroup(b []byte, from, to, many int) (list []api.Event, e api.Errno) {
	e = stopped(func() { list = groupOf(b, from, to, many) })
	return list, e
}

func groupOf(b []byte, from, to, many int) []api.Event {
	must(0 <= from && from <= to && to <= len(b), api.ErrArg)
	rest := b[from:to]
	inside := takePieces(&rest)
	must(len(rest) == 0, api.ErrMore)
	var list []api.Event
	book, at := event.New(), 0
	for len(list) < many {
		x, next, e := book.Take(inside, at)
		must(e == api.OK, e)
		list, at = append(list, x), next
	}
	must(at == len(inside), api.ErrMore)
	return list
}

// plainDecode is a model of Decode.
func plainDecode(b []byte) (list []api.Event, e api.Errno) {
	e = stopped(func() {
		many, places := footOf(b)
		for i := range len(places) - 1 {
			group := groupOf(b, places[i], places[i+1], min(32, many-32*i))
			must(i == 0 || group[0].Tick >= list[len(list)-1].Tick, api.ErrOrder)
			list = append(list, group...)
		}
	})
	if e != api.OK {
		return nil, e
	}
	return list, api.OK
}

// lines returns the headers that are written as name: value.
func lines(texts ...string) []api.Header {
	var out []api.Header
	for _, text := range texts {
		name, value, _ := strings.Cut(text, ": ")
		out = append(out, api.Header{Name: name, Value: value})
	}
	return out
}

// long returns a string of a length that no part of another one repeats soon.
func long(size int) string {
	var out strings.Builder
	for i := 0; out.Len() < size; i++ {
		fmt.Fprint(&out, i, string([]byte{byte(i), byte(i * 7), byte(i >> 3)}))
	}
	return out.String()[:size]
}

// show writes out anything, as far as a line has room for it.
func show(x any) string {
	return fmt.Sprintf("%.900s", fmt.Sprintf("%+v", x))
}

// same compares all fields, each with its own.
func same(a, b api.Event) bool {
	return a.Kind == b.Kind && a.Session == b.Session && a.Tick == b.Tick && a.Method == b.Method && a.URL == b.URL && slices.Equal(a.Headers, b.Headers) &&
		a.Body == b.Body && a.Status == b.Status && a.Code == b.Code && a.Cred == b.Cred && a.Nonce == b.Nonce && a.N == b.N
}

func sameAll(a, b []api.Event) bool {
	return slices.EqualFunc(a, b, same)
}

// fill overwrites items and what lies behind their length.
func fill[T any](list []T, with T) {
	list = list[:cap(list)]
	for i := range list {
		list[i] = with
	}
}

// whole returns a copy of a slice and of what lies behind its length.
func whole[T any](list []T) []T {
	return slices.Clone(list[:cap(list)])
}

// spare returns a copy of a slice, with items behind its length.
func spare[T any](list []T, behind T) []T {
	return slices.Concat(list, slices.Repeat([]T{behind}, 60))[:len(list)]
}

// roomy returns copies of events whose headers, and themselves, have others
// behind their length.
func roomy(list []api.Event) []api.Event {
	list = spare(list, api.Event{Kind: 4, Session: 77})
	for i, x := range list {
		list[i].Headers = spare(x.Headers, api.Header{Name: "behind", Value: "77"})
	}
	return list
}

// deep returns a copy of events with their headers, and of what lies behind the
// lengths of both.
func deep(list []api.Event) []api.Event {
	list = whole(list)
	for i, x := range list {
		list[i].Headers = whole(x.Headers)
	}
	return list
}

// fillEvents overwrites events, their headers, and what lies behind the lengths
// of both. No two lists of headers are the same memory.
func fillEvents(t testing.TB, list []api.Event) {
	t.Helper()
	for i, x := range list {
		fill(x.Headers, api.Header{Name: "filled", Value: fmt.Sprint(i)})
	}
	for i, x := range list {
		for _, h := range whole(x.Headers) {
			if h.Value != fmt.Sprint(i) {
				t.Fatalf("the headers of the event %d are also those of another one: %s", i, show(x))
			}
		}
	}
	fill(list, api.Event{Kind: 99})
}

// encode compares Encode with its model, twice: its result is new memory, and
// its argument, also behind the lengths, stays as it is.
func encode(t testing.TB, list []api.Event) ([]byte, api.Errno) {
	t.Helper()
	want, wantE := plainEncode(t, list)
	arg := roomy(list)
	before := deep(arg)
	for range 2 {
		got, e := Encode(arg)
		if !bytes.Equal(got, want) || e != wantE {
			t.Fatalf("Encode(%s) = %s, %d, want %s, %d", show(list), show(got), e, show(want), wantE)
		}
		fill(got, 99)
		if !sameAll(deep(arg), before) {
			t.Fatalf("Encode(%s), or a change of its result, changed its argument", show(list))
		}
	}
	return want, wantE
}

// decode compares Decode with its model, twice.
func decode(t testing.TB, b []byte) ([]api.Event, api.Errno) {
	t.Helper()
	want, wantE := plainDecode(b)
	reads(t, b, func(b []byte) {
		t.Helper()
		got, e := Decode(b)
		if !sameAll(got, want) || e != wantE {
			t.Fatalf("Decode(%s) = %s, %d, want %s, %d", show(b), show(got), e, show(want), wantE)
		}
		fillEvents(t, got)
	})
	return want, wantE
}

// foot compares Foot with its model, twice.
func foot(t testing.TB, b []byte) (int, []int, api.Errno) {
	t.Helper()
	want, wantPlaces, wantE := plainFoot(b)
	reads(t, b, func(b []byte) {
		t.Helper()
		many, places, e := Foot(b)
		if many != want || !slices.Equal(places, wantPlaces) || e != wantE {
			t.Fatalf("Foot(%s) = %d, %v, %d, want %d, %v, %d", show(b), many, places, e, want, wantPlaces, wantE)
		}
		fill(places, 99)
	})
	return want, wantPlaces, wantE
}

// group compares Group with its model, twice.
func group(t testing.TB, b []byte, from, to, many int) ([]api.Event, api.Errno) {
	t.Helper()
	want, wantE := plainGroup(b, from, to, many)
	reads(t, b, func(b []byte) {
		t.Helper()
		got, e := Group(b, from, to, many)
		if !sameAll(got, want) || e != wantE {
			t.Fatalf("Group(%s, %d, %d, %d) = %s, %d, want %s, %d", show(b), from, to, many, show(got), e, show(want), wantE)
		}
		fillEvents(t, got)
	})
	return want, wantE
}

// reads makes a call twice, which changes its results: they are new memory, and
// its argument, also behind its length, stays as it is.
func reads(t testing.TB, b []byte, call func(b []byte)) {
	t.Helper()
	arg := spare(b, 77)
	before := whole(arg)
	for range 2 {
		call(arg)
		if !bytes.Equal(whole(arg), before) {
			t.Fatalf("the call, or a change of its result, changed the bytes %s", show(b))
		}
	}
}
