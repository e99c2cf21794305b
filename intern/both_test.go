package intern

import (
	"bytes"
	"fmt"
	"math"
	"math/rand"
	"slices"
	"testing"

	"pursuivant/api"
)

// texts holds lists of strings, also repeated ones, that Take can take.
func texts() [][]string {
	out := [][]string{nil, {""}, {"", ""}, {"a", "b", "a"}, {"", "a", "", "bc", "a", "bc"}, slices.Concat(similar, similar), {every(), every(), long(2048), every()}}
	var many []string
	for i := range 600 {
		many = append(many, fmt.Sprint(i), fmt.Sprint(i/2), fmt.Sprint(i*7%600))
	}
	return append(out, many)
}

// takeAll takes strings up to the end of b.
func takeAll(t *testing.T, x *Table, b []byte) []string {
	t.Helper()
	var out []string
	for at := 0; at < len(b); {
		s, next, e := x.Take(b, at)
		if e != api.OK || next <= at {
			t.Fatalf("Take(%s, %d) = %s, %d, %d", show(b), at, show(s), next, e)
		}
		out, at = append(out, s), next
	}
	return out
}

func putAll(x *Table, list []string) []byte {
	var b []byte
	for _, s := range list {
		b = x.Put(b, s)
	}
	return b
}

// TestRestores takes what was put, and then writes more with both Tables.
func TestRestores(t *testing.T) {
	for _, list := range texts() {
		x, y := New(), New()
		b := putAll(x, list)
		if got := takeAll(t, y, b); !slices.Equal(got, list) {
			t.Fatalf("%s is restored as %s", show(list), show(got))
		}
		if x.Len() != y.Len() {
			t.Fatalf("the one has %d strings, the other %d", x.Len(), y.Len())
		}
		for _, s := range append(slices.Clone(list), "next", "", "next", "another", "another") {
			checkPut(t, y, nil, s, x.Put(nil, s))
		}
		checkNew(t, y, contents(x)...)
	}
}

// TestRestoresByTurns has each of two Tables put what the other one takes.
func TestRestoresByTurns(t *testing.T) {
	for _, list := range texts() {
		x, y := New(), New()
		for _, s := range list {
			b := x.Put([]byte{7}, s)
			checkTake(t, y, b, 1, s, len(b))
			x, y = y, x
		}
		checkList(t, x, contents(y)...)
	}
}

// TestWritesAgain writes what was taken as the same bytes.
func TestWritesAgain(t *testing.T) {
	for _, list := range texts() {
		b := putAll(New(), list)
		got := takeAll(t, New(), b)
		if again := putAll(New(), got); !bytes.Equal(again, b) {
			t.Fatalf("%s is written again as %s", show(b), show(again))
		}
	}
	b := []byte{0, 0, 1, 0, 1, 'x', 2, 1, 0, 2, 'x', 'x', 3, 2}
	if got := putAll(New(), takeAll(t, New(), b)); !bytes.Equal(got, b) {
		t.Errorf("%v is written again as %v", b, got)
	}
}

// TestMixed adds to one Table by Put and by Take.
func TestMixed(t *testing.T) {
	x := New()
	checkPut(t, x, nil, "a", []byte("\x00\x01a"))
	checkTake(t, x, []byte("\x00\x01b"), 0, "b", 3)
	checkPut(t, x, nil, "b", []byte{2})
	checkTake(t, x, []byte{1}, 0, "a", 1)
	checkTake(t, x, []byte{2}, 0, "b", 1)
	checkPut(t, x, nil, "", []byte{0, 0})
	checkTake(t, x, []byte("\x00\x01c"), 0, "c", 3)
	checkPut(t, x, nil, "c", []byte{4})
	checkPut(t, x, nil, "d", []byte("\x00\x01d"))
	checkTake(t, x, []byte{5}, 0, "d", 1)
	checkNew(t, x, "a", "b", "", "c", "d")
}

func TestNil(t *testing.T) {
	var x *Table
	for range 2 {
		for _, b := range [][]byte{nil, {}, {0}, {1}, {0, 0}, {0, 1, 'a'}, {128}, spare([]byte{0, 1, 'a'})} {
			before := slices.Clone(b[:cap(b)])
			for _, s := range []string{"", "a", long(3000)} {
				if got := x.Put(b, s); got != nil {
					t.Errorf("Put(%v, %s) = %v", b, show(s), got)
				}
			}
			for _, at := range []int{math.MinInt, -1, 0, 1, len(b), len(b) + 1, math.MaxInt} {
				if s, next, e := x.Take(b, at); s != "" || next != 0 || e != api.ErrArg {
					t.Errorf("Take(%v, %d) = %s, %d, %d", b, at, show(s), next, e)
				}
			}
			if !bytes.Equal(b[:cap(b)], before) {
				t.Errorf("%v has become %v", before, b[:cap(b)])
			}
		}
		if x.Len() != 0 {
			t.Errorf("Len() = %d", x.Len())
		}
	}
}

// randomString returns a string that is often one of a few.
func randomString(r *rand.Rand) string {
	switch r.Intn(10) {
	case 0:
		return long(r.Intn(3000))
	case 1:
		return similar[r.Intn(len(similar))]
	}
	out := make([]byte, r.Intn(5))
	for i := range out {
		out[i] = "abAB\x00\x01\x80\xFF"[r.Intn(8)]
	}
	return string(out)
}

// randomBytes returns what may be the encoding of a string with a Table of so
// many strings.
func randomBytes(r *rand.Rand, count int) []byte {
	var b []byte
	switch s := randomString(r); r.Intn(6) {
	case 0:
		b = number(uint64(r.Intn(count + 2)))
	case 1:
		b = announced(uint64(r.Intn(len(s)+3)), s)
	case 2:
		b = []byte(s)
	case 3:
		b = number(r.Uint64() >> r.Intn(64))
	case 4:
		b = announced(r.Uint64()>>r.Intn(64), s)
	default:
		b = written(s)
	}
	if r.Intn(8) == 0 && len(b) > 0 {
		b[r.Intn(len(b))] = byte(r.Intn(256))
	}
	return b
}

// TestRandom compares sequences of calls with those of the model, twice.
func TestRandom(t *testing.T) {
	seen := map[api.Errno]int{}
	for seed := range int64(300) {
		var results [2][]byte
		for turn := range results {
			r := rand.New(rand.NewSource(seed))
			x, m := New(), &plain{}
			var b []byte
			for range 60 {
				if r.Intn(2) == 0 {
					s := randomString(r)
					want := m.put(b, s)
					checkPut(t, x, b, s, want[len(b):])
					b = want
					continue
				}
				at := len(b)
				b = slices.Concat(b, randomBytes(r, x.Len()), randomBytes(r, 3))
				if r.Intn(12) == 0 {
					at = []int{-1 - r.Intn(3), len(b) + 1 + r.Intn(3), r.Intn(len(b) + 1)}[r.Intn(3)]
				}
				_, e := checkPlainTake(t, x, m, spare(b), at)
				seen[e]++
			}
			checkList(t, x, m.list...)
			results[turn] = putAll(x, slices.Concat([]string{string(b)}, m.list))
		}
		if !bytes.Equal(results[0], results[1]) {
			t.Fatalf("seed %d: the same calls returned other results", seed)
		}
	}
	for _, e := range []api.Errno{api.OK, api.ErrArg, api.ErrOver, api.ErrForm, api.ErrNone, api.ErrShort} {
		if seen[e] < 20 {
			t.Errorf("error %d occurred %d times", e, seen[e])
		}
	}
}

func FuzzIntern(f *testing.F) {
	f.Add([]byte{0, 1, 97, 0, 1, 98, 1}, 0)
	f.Add([]byte{0, 0, 0, 1, 'a', 1, 2, 0, 1, 'a'}, 0)
	f.Add([]byte{9, 128, 0}, 1)
	f.Add(announced(2049, long(2049)), 0)
	f.Add(written(long(2048)), -1)
	f.Fuzz(func(t *testing.T, b []byte, at int) {
		x, m := New(), &plain{}
		next, e := at, api.OK
		var last int
		for e == api.OK {
			last = next
			next, e = checkPlainTake(t, x, m, b, last)
		}
		if last > at {
			part := b[at:last]
			y := New()
			if again := putAll(y, takeAll(t, New(), part)); !bytes.Equal(again, part) {
				t.Fatalf("%s is written again as %s", show(part), show(again))
			}
		}
		checkList(t, x, m.list...)
	})
}
