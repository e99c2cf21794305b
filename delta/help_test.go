package delta

import (
	"bytes"
	"encoding/binary"
	"fmt"
	"math/big"
	"slices"
	"strings"
	"testing"

	"pursuivant/api"
	"pursuivant/intern"
)

// plain is a model of a Table: it searches a list for each string.
type plain struct {
	list []string
}

func (p *plain) put(s string) []byte {
	if i := slices.Index(p.list, s); i >= 0 {
		return number(uint64(i) + 1)
	}
	p.list = append(p.list, s)
	return written(s)
}

// take returns the string at the start of some bytes, and the bytes behind it.
func (p *plain) take(b []byte) (string, []byte, api.Errno) {
	n, rest, e := plainNumber(b)
	switch {
	case e != api.OK:
		return "", nil, e
	case n > uint64(len(p.list)):
		return "", nil, api.ErrNone
	case n > 0:
		return p.list[n-1], rest, api.OK
	}
	size, rest, e := plainNumber(rest)
	switch {
	case e != api.OK:
		return "", nil, e
	case size > 2048:
		return "", nil, api.ErrOver
	case size > uint64(len(rest)):
		return "", nil, api.ErrShort
	case slices.Contains(p.list, string(rest[:size])):
		return "", nil, api.ErrForm
	}
	p.list = append(p.list, string(rest[:size]))
	return string(rest[:size]), rest[size:], api.OK
}

// plainNumber returns the number at the start of some bytes, and those behind it.
func plainNumber(b []byte) (uint64, []byte, api.Errno) {
	size := slices.IndexFunc(b, func(c byte) bool { return c < 128 }) + 1
	n, read := binary.Uvarint(b)
	switch {
	case size == 0 && len(b) < 10:
		return 0, nil, api.ErrShort
	case size == 0 || read != size || !bytes.Equal(b[:size], number(n)):
		return 0, nil, api.ErrForm
	}
	return n, b[size:], api.OK
}

// plainDifference compares whole parts of the lists, the longest ones first.
func plainDifference(was, list []api.Header) (first, last int) {
	for first = len(was); first > len(list) || !slices.Equal(was[:first], list[:first]); first-- {
	}
	was, list = was[first:], list[first:]
	for last = len(was); last > len(list) || !slices.Equal(was[len(was)-last:], list[len(list)-last:]); last-- {
	}
	return first, last
}

// plainPut is a model of Put.
func plainPut(b []byte, p *plain, was, list []api.Header) []byte {
	first, last := plainDifference(was, list)
	fresh := list[first : len(list)-last]
	out := slices.Concat(b, number(uint64(first)), number(uint64(last)), number(uint64(len(fresh))))
	for _, h := range fresh {
		out = slices.Concat(out, p.put(h.Name), p.put(h.Value))
	}
	return out
}

// plainTake is a model of Take.
func plainTake(b []byte, at int, p *plain, was []api.Header) ([]api.Header, int, api.Errno) {
	if at < 0 || at > len(b) {
		return nil, 0, api.ErrArg
	}
	first, rest, e := plainNumber(b[at:])
	if e != api.OK {
		return nil, 0, e
	}
	last, rest, e := plainNumber(rest)
	if e != api.OK {
		return nil, 0, e
	}
	many, rest, e := plainNumber(rest)
	switch {
	case e != api.OK:
		return nil, 0, e
	case above(len(was), first, last):
		return nil, 0, api.ErrNone
	case above(25, first, last, many):
		return nil, 0, api.ErrOver
	}
	list := slices.Clone(was[:first])
	for range many {
		var h api.Header
		if h.Name, rest, e = p.take(rest); e != api.OK {
			return nil, 0, e
		}
		if h.Value, rest, e = p.take(rest); e != api.OK {
			return nil, 0, e
		}
		list = append(list, h)
	}
	list = append(list, was[len(was)-int(last):]...)
	if a, b := plainDifference(was, list); a != int(first) || b != int(last) {
		return nil, 0, api.ErrForm
	}
	return list, len(b) - len(rest), api.OK
}

// above reports whether the unbounded sum of numbers is above a limit.
func above(limit int, numbers ...uint64) bool {
	sum := new(big.Int)
	for _, n := range numbers {
		sum.Add(sum, new(big.Int).SetUint64(n))
	}
	return sum.Cmp(big.NewInt(int64(limit))) > 0
}

// number is the encoding of a number.
func number(n uint64) []byte {
	return binary.AppendUvarint(nil, n)
}

// numbers is the encodings of numbers.
func numbers(list ...uint64) []byte {
	var out []byte
	for _, n := range list {
		out = append(out, number(n)...)
	}
	return out
}

// written is the encoding of a string that is new.
func written(s string) []byte {
	return slices.Concat([]byte{0}, number(uint64(len(s))), []byte(s))
}

// letters has a header for each letter, whose Name is the letter and whose Value
// is that letter twice.
func letters(s string) []api.Header {
	var out []api.Header
	for i := range len(s) {
		out = append(out, api.Header{Name: s[i : i+1], Value: s[i:i+1] + s[i:i+1]})
	}
	return out
}

// many returns as many headers, no two of which are equal.
func many(count int) []api.Header {
	var out []api.Header
	for i := range count {
		out = append(out, api.Header{Name: fmt.Sprint("n", i), Value: fmt.Sprint("v", i)})
	}
	return out
}

// same returns as many equal headers.
func same(count int) []api.Header {
	return slices.Repeat([]api.Header{{Name: "a", Value: "aa"}}, count)
}

// fill overwrites bytes and what lies behind their length.
func fill(b []byte) {
	b = b[:cap(b)]
	for i := range b {
		b[i] = 99
	}
}

// fillHeaders overwrites headers and what lies behind their length.
func fillHeaders(list []api.Header) {
	list = list[:cap(list)]
	for i := range list {
		list[i] = api.Header{Name: "filled", Value: "99"}
	}
}

// spare returns the bytes, with others behind their length.
func spare(b []byte) []byte {
	return slices.Concat(b, bytes.Repeat([]byte{77}, 60))[:len(b)]
}

// roomy returns the headers, with others behind their length.
func roomy(list []api.Header) []api.Header {
	return slices.Concat(list, slices.Repeat([]api.Header{{Name: "behind", Value: "77"}}, 60))[:len(list)]
}

// whole returns a copy of a slice and of what lies behind its length.
func whole[T any](s []T) []T {
	return slices.Clone(s[:cap(s)])
}

// show writes out anything, as far as a line has room for it.
func show(x any) string {
	return fmt.Sprintf("%.400s", fmt.Sprintf("%q", x))
}

// every holds all values of a byte.
func every() string {
	var out []byte
	for c := range 256 {
		out = append(out, byte(c))
	}
	return string(out)
}

// long returns a string of a length that no part of another one repeats soon.
func long(size int) string {
	var out strings.Builder
	for i := 0; out.Len() < size; i++ {
		fmt.Fprint(&out, i, every()[i%256:])
	}
	return out.String()[:size]
}

// made returns a Table that got the strings, which are different ones.
func made(list ...string) *intern.Table {
	x := intern.New()
	for _, s := range list {
		x.Put(nil, s)
	}
	return x
}

// read returns a Table that has taken the strings, which are different ones.
func read(list ...string) *intern.Table {
	x := intern.New()
	for _, s := range list {
		x.Take(written(s), 0)
	}
	return x
}

// checkStrings checks that a Table has just the strings, and then that it gives
// the next number to another one.
func checkStrings(t *testing.T, x *intern.Table, want ...string) {
	t.Helper()
	if x.Len() != len(want) {
		t.Fatalf("the Table has %d strings, want the %d of %s", x.Len(), len(want), show(want))
	}
	for i, s := range want {
		n := number(uint64(i) + 1)
		if got, next, e := x.Take(n, 0); got != s || next != len(n) || e != api.OK {
			t.Fatalf("the string %d of %s is %s, %d, %d", i+1, show(want), show(got), next, e)
		}
		if got := x.Put(nil, s); !bytes.Equal(got, n) {
			t.Fatalf("the string %d of %s is written as %v", i+1, show(want), got)
		}
	}
	if got, next, e := x.Take(number(uint64(len(want))+1), 0); got != "" || next != 0 || e != api.ErrNone {
		t.Fatalf("there is one more string behind %s: %s, %d, %d", show(want), show(got), next, e)
	}
	another := strings.Join(want, "") + "another"
	if got := x.Put(nil, another); !bytes.Equal(got, written(another)) {
		t.Fatalf("behind %s, another string is written as %s", show(want), show(got))
	}
	if got := x.Put(nil, another); !bytes.Equal(got, number(uint64(len(want))+1)) {
		t.Fatalf("behind %s, another string has the number %v", show(want), got)
	}
}

// checkPut checks that Put returns b followed by more, in new memory, and leaves
// its arguments, also behind their lengths, as they were.
func checkPut(t *testing.T, x *intern.Table, b []byte, was, list []api.Header, more []byte) {
	t.Helper()
	bytesBefore, wasBefore, listBefore := whole(b), whole(was), whole(list)
	want := slices.Concat(b, more)
	got := Put(b, x, was, list)
	if !bytes.Equal(got, want) {
		t.Fatalf("Put of %s relative to %s behind %s = %v, want %v", show(list), show(was), show(b), got, want)
	}
	fill(got)
	if !bytes.Equal(whole(b), bytesBefore) {
		t.Fatalf("Put of %s relative to %s behind %s, or a change of its result, changed the bytes", show(list), show(was), show(bytesBefore))
	}
	if !slices.Equal(whole(was), wasBefore) || !slices.Equal(whole(list), listBefore) {
		t.Fatalf("Put of %s relative to %s changed one of them", show(listBefore), show(wasBefore))
	}
}

// checkTake checks that Take returns a list, in new memory, and an offset, and
// leaves its arguments, also behind their lengths, as they were.
func checkTake(t *testing.T, x *intern.Table, b []byte, at int, was, want []api.Header, wantNext int) {
	t.Helper()
	bytesBefore, wasBefore := whole(b), whole(was)
	list, next, e := Take(b, at, x, was)
	if !slices.Equal(list, want) || next != wantNext || e != api.OK {
		t.Fatalf("Take(%s, %d) relative to %s = %s, %d, %d, want %s, %d", show(b), at, show(was), show(list), next, e, show(want), wantNext)
	}
	fillHeaders(list)
	if !bytes.Equal(whole(b), bytesBefore) || !slices.Equal(whole(was), wasBefore) {
		t.Fatalf("Take(%s, %d) relative to %s, or a change of its result, changed its arguments", show(bytesBefore), at, show(wasBefore))
	}
}

// checkError checks that Take returns an error for a Table with the strings,
// and that the Table has those and the added ones afterwards.
func checkError(t *testing.T, had []string, b []byte, at int, was []api.Header, want api.Errno, added ...string) {
	t.Helper()
	for _, build := range []func(...string) *intern.Table{made, read, made} {
		x := build(had...)
		bytesBefore, wasBefore := whole(b), whole(was)
		if list, next, e := Take(b, at, x, was); len(list) != 0 || next != 0 || e != want {
			t.Fatalf("Take(%s, %d) relative to %s = %s, %d, %d, want error %d", show(b), at, show(was), show(list), next, e, want)
		}
		if !bytes.Equal(whole(b), bytesBefore) || !slices.Equal(whole(was), wasBefore) {
			t.Fatalf("Take(%s, %d) relative to %s with an error changed its arguments", show(bytesBefore), at, show(wasBefore))
		}
		checkStrings(t, x, slices.Concat(had, added)...)
	}
}

// checkErrorAnywhere is checkError with other bytes ahead of b, which are no end.
func checkErrorAnywhere(t *testing.T, had []string, b []byte, was []api.Header, want api.Errno, added ...string) {
	t.Helper()
	for _, ahead := range []string{"", "\x00", "\x01", "\x00\x00\x01\x00\x01q", "\x80", "\xFF\xFF\xFF\xFF\xFF\xFF\xFF\xFF\xFF\xFF\xFF"} {
		checkError(t, had, spare(slices.Concat([]byte(ahead), b)), len(ahead), roomy(was), want, added...)
	}
}
