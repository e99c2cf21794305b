package event

import (
	"bytes"
	"encoding/binary"
	"fmt"
	"math/big"
	"reflect"
	"slices"
	"strings"
	"testing"

	"pursuivant/api"
)

// layout has the fields of each kind, in the order in which they are written.
var layout = []string{"", "Code Method URL Nonce Body Headers", "Code Cred N Method URL Body Headers", "Status Body Headers", "", "N", "N", "Code Status"}

// fieldsOf returns the names of the fields of a kind.
func fieldsOf(kind int) []string {
	return strings.Fields(layout[kind])
}

// allFields has those that a kind may have.
const allFields = "Method URL Headers Body Status Code Cred Nonce N"

// field returns the field of an event with a name, which can be set.
func field(x *api.Event, name string) reflect.Value {
	return reflect.ValueOf(x).Elem().FieldByName(name)
}

// plainGood is a model of Good.
func plainGood(x api.Event) bool {
	if x.Kind < 1 || x.Kind > 7 || x.Session < 0 || x.Session > 1<<20 || x.Tick < 0 || x.Tick > 1<<40 {
		return false
	}
	for _, name := range strings.Fields(allFields) {
		v := field(&x, name)
		own := slices.Contains(fieldsOf(x.Kind), name)
		if !own && !v.IsZero() && !(name == "Headers" && v.Len() == 0) {
			return false
		}
	}
	for _, h := range x.Headers {
		if len(h.Name) > 512 || len(h.Value) > 2048 {
			return false
		}
	}
	if len(x.Headers) > 25 || len(x.Method) > 512 || len(x.Nonce) > 512 || len(x.URL) > 2048 || len(x.Body) > 2048 {
		return false
	}
	switch x.Kind {
	case 1:
		return slices.Contains(codes(), x.Code)
	case 2:
		return x.Code == 1 || x.Code == 2
	case 3:
		return x.Status > 99 && x.Status < 600
	case 5:
		return x.Session == 0 && x.N <= 1<<40
	case 7:
		return x.Code > 0 && x.Code < 17 && x.Status >= 0 && x.Status < 600
	}
	return true
}

// codes has the Codes of EvStart that may be.
func codes() []int {
	var out []int
	for mode := 1; mode <= 3; mode++ {
		for cred := 1; cred <= 3; cred++ {
			for redirect := 1; redirect <= 3; redirect++ {
				for dest := 1; dest <= 10; dest++ {
					out = append(out, mode+4*cred+16*redirect+64*dest)
				}
			}
		}
	}
	return out
}

// plainInput is a model of Input.
func plainInput(x api.Event) (api.Input, bool) {
	kinds := []int{0, 1, 0, 2, 3, 4, 5, 0}
	if !plainGood(x) || kinds[x.Kind] == 0 {
		return api.Input{}, false
	}
	in := api.Input{Kind: kinds[x.Kind], Session: x.Session, N: x.N}
	if x.Kind == 1 {
		in.Request = api.Request{Method: x.Method, URL: x.URL, Mode: x.Code % 4, Cred: x.Code / 4 % 4, Redirect: x.Code / 16 % 4, Dest: x.Code / 64, Nonce: x.Nonce, Headers: x.Headers, Body: x.Body}
	}
	if x.Kind == 3 {
		in.Response = api.Response{Status: x.Status, Headers: x.Headers, Body: x.Body}
	}
	return in, true
}

// plain is a model of a Book. It searches a list for each string, and all events
// for the last one of a session.
type plain struct {
	strings []string
	events  []api.Event
}

func (p *plain) tick() int {
	if len(p.events) == 0 {
		return 0
	}
	return p.events[len(p.events)-1].Tick
}

// was returns the list to which the headers of x are relative.
func (p *plain) was(x api.Event) []api.Header {
	for _, y := range slices.Backward(p.events) {
		if y.Session == x.Session && (x.Kind == 3 && y.Kind == 3 || x.Kind != 3 && (y.Kind == 1 || y.Kind == 2)) {
			return y.Headers
		}
	}
	return nil
}

// keep has a copy of x be the last event.
func (p *plain) keep(x api.Event) {
	x.Headers = slices.Clone(x.Headers)
	p.events = append(p.events, x)
}

func (p *plain) clone() *plain {
	return &plain{strings: slices.Clone(p.strings), events: slices.Clone(p.events)}
}

// put is a model of Put, but for the bytes ahead.
func (p *plain) put(x api.Event) ([]byte, api.Errno) {
	switch {
	case !plainGood(x):
		return nil, api.ErrForm
	case x.Tick < p.tick():
		return nil, api.ErrOrder
	}
	out := p.write(x)
	p.keep(x)
	return out, api.OK
}

// write returns the encoding of x, which need not be valid.
func (p *plain) write(x api.Event) []byte {
	out := numbers(uint64(x.Kind), uint64(x.Session), uint64(x.Tick-p.tick()))
	for _, name := range fieldsOf(x.Kind) {
		switch v := field(&x, name).Interface().(type) {
		case int:
			out = append(out, number(uint64(v))...)
		case uint64:
			out = append(out, number(v)...)
		case bool:
			out = append(out, map[bool]byte{true: 1}[v])
		case string:
			out = append(out, p.putString(v)...)
		case []api.Header:
			out = append(out, p.putHeaders(p.was(x), v)...)
		}
	}
	return out
}

func (p *plain) putString(s string) []byte {
	if i := slices.Index(p.strings, s); i >= 0 {
		return number(uint64(i) + 1)
	}
	p.strings = append(p.strings, s)
	return written(s)
}

func (p *plain) putHeaders(was, list []api.Header) []byte {
	first, last := plainDifference(was, list)
	fresh := list[first : len(list)-last]
	out := numbers(uint64(first), uint64(last), uint64(len(fresh)))
	for _, h := range fresh {
		out = append(out, p.putString(h.Name)...)
		out = append(out, p.putString(h.Value)...)
	}
	return out
}

// plainDifference compares whole parts of the lists, the longest ones first.
func plainDifference(was, list []api.Header) (first, last int) {
	for first = len(was); first > len(list) || !slices.Equal(was[:first], list[:first]); first-- {
	}
	was, list = was[first:], list[first:]
	for last = len(was); last > len(list) || !slices.Equal(was[len(was)-last:], list[len(list)-last:]); last-- {
	}
	return first, last
}

// stop is an error that ends take.
type stop api.Errno

// take is a model of Take.
func (p *plain) take(b []byte, at int) (x api.Event, next int, e api.Errno) {
	defer func() {
		if v := recover(); v != nil {
			x, next, e = api.Event{}, 0, api.Errno(v.(stop))
		}
	}()
	if at < 0 || at > len(b) {
		panic(stop(api.ErrArg))
	}
	rest, fits := b[at:], true
	whole := func(n uint64) int64 {
		fits = fits && n < 1<<62
		return int64(n)
	}
	kind := takeNumber(&rest)
	if kind < 1 || kind > 7 {
		panic(stop(api.ErrForm))
	}
	x.Kind, x.Session = int(kind), int(whole(takeNumber(&rest)))
	known := fits
	sum := new(big.Int).SetUint64(takeNumber(&rest))
	sum.Add(sum, big.NewInt(int64(p.tick())))
	fits = fits && sum.Cmp(big.NewInt(1<<40)) <= 0
	x.Tick = int(sum.Int64())
	for _, name := range fieldsOf(x.Kind) {
		switch v := field(&x, name); v.Kind() {
		case reflect.Int:
			v.SetInt(whole(takeNumber(&rest)))
		case reflect.Uint64:
			v.SetUint(takeNumber(&rest))
		case reflect.Bool:
			n := takeNumber(&rest)
			if n > 1 {
				panic(stop(api.ErrForm))
			}
			v.SetBool(n == 1)
		case reflect.String:
			v.SetString(p.takeString(&rest))
		case reflect.Slice:
			var was []api.Header
			if known {
				was = p.was(x)
			}
			x.Headers = p.takeHeaders(&rest, was)
		}
	}
	if !fits || !plainGood(x) {
		panic(stop(api.ErrForm))
	}
	p.keep(x)
	return x, len(b) - len(rest), api.OK
}

// takeNumber returns the number at the start of some bytes, of which it leaves
// those behind it.
func takeNumber(b *[]byte) uint64 {
	size := slices.IndexFunc(*b, func(c byte) bool { return c < 128 }) + 1
	n, read := binary.Uvarint(*b)
	switch {
	case size == 0 && len(*b) < 10:
		panic(stop(api.ErrShort))
	case size == 0 || read != size || !bytes.Equal((*b)[:size], number(n)):
		panic(stop(api.ErrForm))
	}
	*b = (*b)[size:]
	return n
}

func (p *plain) takeString(b *[]byte) string {
	n := takeNumber(b)
	if n > uint64(len(p.strings)) {
		panic(stop(api.ErrNone))
	}
	if n > 0 {
		return p.strings[n-1]
	}
	size := takeNumber(b)
	switch {
	case size > 2048:
		panic(stop(api.ErrOver))
	case size > uint64(len(*b)):
		panic(stop(api.ErrShort))
	case slices.Contains(p.strings, string((*b)[:size])):
		panic(stop(api.ErrForm))
	}
	s := string((*b)[:size])
	p.strings = append(p.strings, s)
	*b = (*b)[size:]
	return s
}

func (p *plain) takeHeaders(b *[]byte, was []api.Header) []api.Header {
	first, last, many := takeNumber(b), takeNumber(b), takeNumber(b)
	switch {
	case above(len(was), first, last):
		panic(stop(api.ErrNone))
	case above(25, first, last, many):
		panic(stop(api.ErrOver))
	}
	list := slices.Clone(was[:first])
	for range many {
		name := p.takeString(b)
		list = append(list, api.Header{Name: name, Value: p.takeString(b)})
	}
	list = append(list, was[len(was)-int(last):]...)
	if a, z := plainDifference(was, list); a != int(first) || z != int(last) {
		panic(stop(api.ErrForm))
	}
	return list
}

// above reports whether the unbounded sum of numbers is above a limit.
func above(limit int, numbers ...uint64) bool {
	sum := new(big.Int)
	for _, n := range numbers {
		sum.Add(sum, new(big.Int).SetUint64(n))
	}
	return sum.Cmp(big.NewInt(int64(limit))) > 0
}

// number is the encoding of a number.
func number(n uint64) []byte {
	return binary.AppendUvarint(nil, n)
}

// numbers is the encodings of numbers.
func numbers(list ...uint64) []byte {
	var out []byte
	for _, n := range list {
		out = append(out, number(n)...)
	}
	return out
}

// written is the encoding of a string that is new.
func written(s string) []byte {
	return slices.Concat([]byte{0}, number(uint64(len(s))), []byte(s))
}

// lines returns the headers that are written as name: value.
func lines(texts ...string) []api.Header {
	var out []api.Header
	for _, text := range texts {
		name, value, _ := strings.Cut(text, ": ")
		out = append(out, api.Header{Name: name, Value: value})
	}
	return out
}

// many returns as many headers, no two of which are equal.
func many(count int) []api.Header {
	var out []api.Header
	for i := range count {
		out = append(out, api.Header{Name: fmt.Sprint("n", i), Value: fmt.Sprint("v", i)})
	}
	return out
}

// every holds all values of a byte.
func every() string {
	var out []byte
	for c := range 256 {
		out = append(out, byte(c))
	}
	return string(out)
}

// long returns a string of a length that no part of another one repeats soon.
func long(size int) string {
	var out strings.Builder
	for i := 0; out.Len() < size; i++ {
		fmt.Fprint(&out, i, every()[i%256:])
	}
	return out.String()[:size]
}

// show writes out anything, as far as a line has room for it.
func show(x any) string {
	return fmt.Sprintf("%.900s", fmt.Sprintf("%+q", x))
}

// same compares all fields, each with its own.
func same(a, b api.Event) bool {
	return a.Kind == b.Kind && a.Session == b.Session && a.Tick == b.Tick && a.Method == b.Method && a.URL == b.URL && slices.Equal(a.Headers, b.Headers) &&
		a.Body == b.Body && a.Status == b.Status && a.Code == b.Code && a.Cred == b.Cred && a.Nonce == b.Nonce && a.N == b.N
}

// sameInput compares all fields; nil and empty headers are the same.
func sameInput(a, b api.Input) bool {
	for _, list := range []*[]api.Header{&a.Request.Headers, &a.Response.Headers, &b.Request.Headers, &b.Response.Headers} {
		if len(*list) == 0 {
			*list = nil
		}
	}
	return reflect.DeepEqual(a, b)
}

// with returns a copy of x, with headers of its own, that was changed.
func with(x api.Event, change func(x *api.Event)) api.Event {
	x.Headers = slices.Clone(x.Headers)
	change(&x)
	return x
}

// fill overwrites bytes and what lies behind their length.
func fill(b []byte) {
	b = b[:cap(b)]
	for i := range b {
		b[i] = 99
	}
}

// fillHeaders overwrites headers and what lies behind their length.
func fillHeaders(list []api.Header) {
	list = list[:cap(list)]
	for i := range list {
		list[i] = api.Header{Name: "filled", Value: "99"}
	}
}

// spare returns the bytes, with others behind their length.
func spare(b []byte) []byte {
	return slices.Concat(b, bytes.Repeat([]byte{77}, 60))[:len(b)]
}

// roomy returns x with a copy of its headers, which has others behind its length.
func roomy(x api.Event) api.Event {
	x.Headers = slices.Concat(x.Headers, slices.Repeat(lines("behind: 77"), 60))[:len(x.Headers)]
	return x
}

// whole returns a copy of a slice and of what lies behind its length.
func whole[T any](s []T) []T {
	return slices.Clone(s[:cap(s)])
}

// pair is a Book and its model, which get the same events.
type pair struct {
	t    *testing.T
	book *Book
	p    *plain
}

// open returns a Book of which events were put, and its model.
func open(t *testing.T, events ...api.Event) *pair {
	t.Helper()
	k := &pair{t: t, book: New(), p: &plain{}}
	for _, x := range events {
		k.put(nil, x)
	}
	return k
}

// opened is like open, but the events are taken.
func opened(t *testing.T, events ...api.Event) *pair {
	t.Helper()
	k := &pair{t: t, book: New(), p: &plain{}}
	for _, x := range events {
		b, e := k.p.clone().put(x)
		if e != api.OK {
			t.Fatalf("%s is no event to be taken: %d", show(x), e)
		}
		k.take(b, 0)
	}
	return k
}

// put compares Put with that of the model: its result is new memory, and its
// arguments, also behind their lengths, stay as they are.
func (k *pair) put(b []byte, x api.Event) ([]byte, api.Errno) {
	k.t.Helper()
	b, x = spare(b), roomy(x)
	bytesBefore, headersBefore := whole(b), whole(x.Headers)
	want, wantE := k.p.put(x)
	if wantE == api.OK {
		want = slices.Concat(b, want)
	}
	got, e := k.book.Put(b, x)
	if !bytes.Equal(got, want) || e != wantE {
		k.t.Fatalf("Put of %s behind %s = %s, %d, want %s, %d", show(x), show(b), show(got), e, show(want), wantE)
	}
	out := slices.Clone(got)
	fill(got)
	if !bytes.Equal(whole(b), bytesBefore) || !slices.Equal(whole(x.Headers), headersBefore) {
		k.t.Fatalf("Put of %s behind %s, or a change of its result, changed its arguments", show(x), show(bytesBefore))
	}
	// The Book has kept nothing of what it was given.
	fill(b)
	fillHeaders(x.Headers)
	return out, e
}

// take compares Take with that of the model: its result is new memory, and its
// arguments, also behind their lengths, stay as they are.
func (k *pair) take(b []byte, at int) (x api.Event, next int, e api.Errno) {
	k.t.Helper()
	b = spare(b)
	before := whole(b)
	want, wantNext, wantE := k.p.take(b, at)
	got, next, e := k.book.Take(b, at)
	if !same(got, want) || next != wantNext || e != wantE {
		k.t.Fatalf("Take(%s, %d) = %s, %d, %d, want %s, %d, %d", show(b), at, show(got), next, e, show(want), wantNext, wantE)
	}
	x = got
	x.Headers = slices.Clone(got.Headers)
	fillHeaders(got.Headers)
	if !bytes.Equal(whole(b), before) {
		k.t.Fatalf("Take(%s, %d), or a change of its result, changed the bytes", show(before), at)
	}
	fill(b)
	return x, next, e
}

// probe puts events that tell all that a Book knows, and compares the bytes with
// those of the model: afterwards, it is of no use any more.
func (k *pair) probe() {
	k.t.Helper()
	for i, s := range slices.Clone(k.p.strings) {
		if len(s) > 2048 {
			k.t.Fatalf("the string %d is too long to be asked for", i)
		}
		k.put(nil, api.Event{Kind: 3, Session: 1 << 19, Tick: k.p.tick(), Status: 200, Body: s})
	}
	sessions := []int{0, 1, 2, 3, 7, 1 << 20}
	for _, x := range k.p.events {
		sessions = append(sessions, x.Session)
	}
	slices.Sort(sessions)
	tick := min(k.p.tick()+3, 1<<40)
	for _, n := range slices.Compact(sessions) {
		for _, x := range []api.Event{{Kind: 3, Status: 100}, {Kind: 2, Code: 1}} {
			x.Session, x.Tick = n, tick
			x.Headers = append(slices.Clone(k.p.was(x)), lines("probe: 1")...)
			x.Headers = x.Headers[max(len(x.Headers)-25, 0):]
			k.put(nil, x)
		}
	}
	if _, e := k.put(nil, api.Event{Kind: 4, Tick: tick - 1}); tick > 0 && e != api.ErrOrder {
		k.t.Fatalf("a tick below the last one: %d", e)
	}
	if got, _ := k.put(nil, api.Event{Kind: 4, Tick: tick, Session: 5}); !bytes.Equal(got, []byte{4, 5, 0}) {
		k.t.Fatalf("an event of the last tick is written as %v", got)
	}
}
