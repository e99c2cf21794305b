package intern

import (
	"bytes"
	"encoding/binary"
	"fmt"
	"math"
	"slices"
	"strings"
	"testing"

	"pursuivant/api"
)

// plain is a model of a Table: it searches a list for each string.
type plain struct {
	list []string
}

func (p *plain) put(b []byte, s string) []byte {
	if i := slices.Index(p.list, s); i >= 0 {
		return slices.Concat(b, number(uint64(i)+1))
	}
	p.list = append(p.list, s)
	return slices.Concat(b, written(s))
}

func (p *plain) take(b []byte, at int) (string, int, api.Errno) {
	if at < 0 || at > len(b) {
		return "", 0, api.ErrArg
	}
	n, rest, e := plainNumber(b[at:])
	if e != api.OK {
		return "", 0, e
	}
	if n > uint64(len(p.list)) {
		return "", 0, api.ErrNone
	}
	if n > 0 {
		return p.list[n-1], len(b) - len(rest), api.OK
	}
	size, rest, e := plainNumber(rest)
	if e != api.OK {
		return "", 0, e
	}
	if size > 2048 {
		return "", 0, api.ErrOver
	}
	if size > uint64(len(rest)) {
		return "", 0, api.ErrShort
	}
	s := string(rest[:size])
	if slices.Contains(p.list, s) {
		return "", 0, api.ErrForm
	}
	p.list = append(p.list, s)
	return s, len(b) - len(rest) + int(size), api.OK
}

// plainNumber returns the number at the start of some bytes, and those behind it.
func plainNumber(b []byte) (uint64, []byte, api.Errno) {
	size := slices.IndexFunc(b, func(c byte) bool { return c < 128 }) + 1
	n, read := binary.Uvarint(b)
	switch {
	case size == 0 && len(b) < 10:
		return 0, nil, api.ErrShort
	case size == 0 || read != size || !bytes.Equal(b[:size], number(n)):
		return 0, nil, api.ErrForm
	}
	return n, b[size:], api.OK
}

// number is the encoding of a number.
func number(n uint64) []byte {
	return binary.AppendUvarint(nil, n)
}

// written is the encoding of a string that is new.
func written(s string) []byte {
	return announced(uint64(len(s)), s)
}

// announced is like the encoding of a string that is new, with any length.
func announced(size uint64, s string) []byte {
	return slices.Concat([]byte{0}, number(size), []byte(s))
}

// fill overwrites bytes and what lies behind their length.
func fill(b []byte) {
	b = b[:cap(b)]
	for i := range b {
		b[i] = 99
	}
}

// spare returns the bytes, with others behind their length.
func spare(b []byte) []byte {
	return slices.Concat(b, bytes.Repeat([]byte{77}, 40))[:len(b)]
}

// show writes out bytes or strings, as far as a line has room for them.
func show(x any) string {
	return fmt.Sprintf("%.300s", fmt.Sprintf("%q", x))
}

// every holds all values of a byte.
func every() string {
	var out []byte
	for c := range 256 {
		out = append(out, byte(c))
	}
	return string(out)
}

// long returns a string of a length that no part of another one repeats soon.
func long(size int) string {
	var out strings.Builder
	for i := 0; out.Len() < size; i++ {
		fmt.Fprint(&out, i, every()[i%256:])
	}
	return out.String()[:size]
}

// similar holds strings that are easily taken for others.
var similar = []string{
	"", "a", "b", "ab", "abc", "A", "Ab", "aB", "AB", "aa", " a", "a ", " ", "\x00", "\x00\x00", "a\x00", "\x00a", "\x01", "\x80", "\xFF",
	"\xFF\xFF", "0", "1", "\x01a", "\x00\x01a", "\u00E9", "e\u0301", "\xE9", "\u212A", "K", "k", "\u017F", "s", "\uFFFD", "\xC3", "\n", "\r\n", "*",
}

// made returns a Table that got the strings, which are different ones.
func made(t *testing.T, list ...string) *Table {
	t.Helper()
	x := New()
	for _, s := range list {
		x.Put(nil, s)
	}
	checkList(t, x, list...)
	return x
}

// read returns a Table that has taken the strings, which are different ones.
func read(t *testing.T, list ...string) *Table {
	t.Helper()
	x := New()
	for _, s := range list {
		x.Take(written(s), 0)
	}
	checkList(t, x, list...)
	return x
}

// checkList checks that a Table has just the strings, as far as this can be seen
// without a change to it.
func checkList(t *testing.T, x *Table, want ...string) {
	t.Helper()
	for i, s := range want {
		n := number(uint64(i) + 1)
		if got, next, e := x.Take(n, 0); got != s || next != len(n) || e != api.OK {
			t.Fatalf("the string %d of %s is %s, %d, %d", i+1, show(want), show(got), next, e)
		}
		if got := x.Put(nil, s); !bytes.Equal(got, n) {
			t.Fatalf("the string %d of %s is written as %v", i+1, show(want), got)
		}
		if got, next, e := x.Take(written(s), 0); len(s) <= 2048 && (got != "" || next != 0 || e != api.ErrForm) {
			t.Fatalf("the string %d of %s is taken again: %s, %d, %d", i+1, show(want), show(got), next, e)
		}
	}
	for _, n := range []uint64{uint64(len(want)) + 1, uint64(len(want)) + 2, math.MaxUint64} {
		if got, next, e := x.Take(number(n), 0); got != "" || next != 0 || e != api.ErrNone {
			t.Fatalf("there is a string %d of %s: %s, %d, %d", n, show(want), show(got), next, e)
		}
	}
	if x.Len() != len(want) {
		t.Fatalf("Len of %s = %d", show(want), x.Len())
	}
}

// checkNew checks that a Table has just the strings, and gives numbers to others.
func checkNew(t *testing.T, x *Table, was ...string) {
	t.Helper()
	checkList(t, x, was...)
	first, second := strings.Join(was, "")+"put", strings.Join(was, "")+"taken"
	checkPut(t, x, nil, first, written(first))
	checkList(t, x, append(slices.Clone(was), first)...)
	if len(second) <= 2048 {
		checkTake(t, x, written(second), 0, second, len(written(second)))
		checkList(t, x, append(slices.Clone(was), first, second)...)
	}
}

// checkPut checks that Put returns b followed by more, and leaves b, also behind
// its length, as it was.
func checkPut(t *testing.T, x *Table, b []byte, s string, more []byte) {
	t.Helper()
	before, want := slices.Clone(b[:cap(b)]), slices.Concat(b, more)
	count := x.Len()
	if more[0] == 0 {
		count++
	}
	got := x.Put(b, s)
	if !bytes.Equal(got, want) {
		t.Fatalf("Put(%s, %s) = %s, want %s", show(b), show(s), show(got), show(want))
	}
	if x.Len() != count {
		t.Fatalf("behind Put(%s, %s), Len is %d, want %d", show(b), show(s), x.Len(), count)
	}
	fill(got)
	if !bytes.Equal(b[:cap(b)], before) {
		t.Fatalf("Put(%s, %s), or a change of its result, changed its argument", show(before), show(s))
	}
}

// checkTake checks that Take returns a string and an offset, and leaves b, also
// behind its length, as it was.
func checkTake(t *testing.T, x *Table, b []byte, at int, want string, wantNext int) {
	t.Helper()
	before := slices.Clone(b[:cap(b)])
	count := x.Len()
	if b[at] == 0 {
		count++
	}
	if s, next, e := x.Take(b, at); s != want || next != wantNext || e != api.OK {
		t.Fatalf("Take(%s, %d) = %s, %d, %d, want %s, %d", show(b), at, show(s), next, e, show(want), wantNext)
	}
	if x.Len() != count {
		t.Fatalf("behind Take(%s, %d), Len is %d, want %d", show(b), at, x.Len(), count)
	}
	if !bytes.Equal(b[:cap(b)], before) {
		t.Fatalf("Take(%s, %d) changed its argument", show(before), at)
	}
}

// checkError checks that Take returns an error for a Table with the strings,
// again and again, and changes nothing.
func checkError(t *testing.T, list []string, b []byte, at int, want api.Errno) {
	t.Helper()
	for _, build := range []func(*testing.T, ...string) *Table{made, read} {
		x := build(t, list...)
		before := slices.Clone(b[:cap(b)])
		for range 2 {
			if s, next, e := x.Take(b, at); s != "" || next != 0 || e != want {
				t.Fatalf("Take(%s, %d) = %s, %d, %d, want error %d", show(b), at, show(s), next, e, want)
			}
			if x.Len() != len(list) {
				t.Fatalf("behind Take(%s, %d) with an error, Len is %d, want %d", show(b), at, x.Len(), len(list))
			}
		}
		if !bytes.Equal(b[:cap(b)], before) {
			t.Fatalf("Take(%s, %d) with an error changed its argument", show(before), at)
		}
		checkNew(t, x, list...)
	}
}

// checkErrorAnywhere is checkError with other bytes ahead of b.
func checkErrorAnywhere(t *testing.T, list []string, b []byte, want api.Errno) {
	t.Helper()
	for _, ahead := range []string{"", "\x00", "\x01", "\x00\x01q", "\x80", "\xFF\xFF\xFF\xFF\xFF\xFF\xFF\xFF\xFF\xFF\xFF"} {
		checkError(t, list, spare(slices.Concat([]byte(ahead), b)), len(ahead), want)
	}
}
