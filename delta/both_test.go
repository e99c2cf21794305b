package delta

import (
	"bytes"
	"math/rand"
	"slices"
	"testing"

	"pursuivant/api"
	"pursuivant/intern"
)

// chains holds lists, each of which is written relative to the one before it.
func chains() [][][]api.Header {
	out := [][][]api.Header{nil, {nil, nil, nil}, {many(25), many(24), nil, many(25), many(25)[5:], many(20)}, {same(1), same(25), same(7), same(8)}}
	var all [][]api.Header
	for _, p := range pairs {
		all = append(all, letters(p.was), letters(p.list))
	}
	some := [][]api.Header{{{}}, {{Name: "a"}, {Value: "a"}}, {{Name: "a"}, {}, {Value: "a"}}, {{Name: "a", Value: "a"}}, {{Name: every(), Value: long(2048)}}, {{Name: long(2048), Value: every()}, {Name: every(), Value: long(2048)}}}
	return append(out, all, some, slices.Concat(some, all, some))
}

// putAll writes lists, each relative to the one before it, the first to none.
func putAll(w *intern.Table, lists [][]api.Header) []byte {
	var b []byte
	var was []api.Header
	for _, list := range lists {
		b = Put(b, w, was, list)
		was = list
	}
	return b
}

// takeAll takes lists up to the end of b, each relative to the one before it.
func takeAll(t *testing.T, w *intern.Table, b []byte) [][]api.Header {
	t.Helper()
	var out [][]api.Header
	var was []api.Header
	for at := 0; at < len(b); {
		list, next, e := Take(b, at, w, was)
		if e != api.OK || next <= at {
			t.Fatalf("Take(%s, %d) relative to %s = %s, %d, %d", show(b), at, show(was), show(list), next, e)
		}
		out, was, at = append(out, list), list, next
	}
	return out
}

func equalLists(x, y [][]api.Header) bool {
	return slices.EqualFunc(x, y, slices.Equal)
}

// TestRestores takes what was put, and then writes more with both Tables.
func TestRestores(t *testing.T) {
	for _, lists := range chains() {
		v, w := intern.New(), intern.New()
		b := putAll(v, lists)
		if got := takeAll(t, w, b); !equalLists(got, lists) {
			t.Fatalf("%s is restored as %s", show(lists), show(got))
		}
		if v.Len() != w.Len() {
			t.Fatalf("the one Table has %d strings, the other %d", v.Len(), w.Len())
		}
		for _, list := range [][]api.Header{letters("next"), letters("ten"), {{Name: "n", Value: "another"}, {Name: "another", Value: "n"}}} {
			checkPut(t, w, nil, letters("n"), list, Put(nil, v, letters("n"), list))
		}
	}
}

// TestRestoresByTurns has each of two Tables put what the other one takes.
func TestRestoresByTurns(t *testing.T) {
	for _, lists := range chains() {
		v, w := intern.New(), intern.New()
		var was []api.Header
		for _, list := range lists {
			b := Put([]byte{7}, v, was, list)
			checkTake(t, w, b, 1, was, list, len(b))
			was, v, w = list, w, v
		}
		if v.Len() != w.Len() {
			t.Fatalf("the one Table has %d strings, the other %d", v.Len(), w.Len())
		}
	}
}

// TestWritesAgain writes what was taken as the same bytes.
func TestWritesAgain(t *testing.T) {
	for _, lists := range chains() {
		b := putAll(intern.New(), lists)
		if again := putAll(intern.New(), takeAll(t, intern.New(), b)); !bytes.Equal(again, b) {
			t.Fatalf("%s is written again as %s", show(b), show(again))
		}
	}
	b := []byte("\x00\x00\x02\x00\x01a\x00\x00\x02\x01\x01\x01\x01\x01\x02\x02\x00\x00\x00\x00\x01\x00\x01b\x03")
	if again := putAll(intern.New(), takeAll(t, intern.New(), b)); !bytes.Equal(again, b) {
		t.Errorf("%s is written again as %s", show(b), show(again))
	}
}

// TestMixed writes lists with one Table by Put, by Take and by the Table alone.
func TestMixed(t *testing.T) {
	w := intern.New()
	checkPut(t, w, nil, nil, letters("a"), []byte("\x00\x00\x01"+newA))
	w.Put(nil, "x")
	checkTake(t, w, []byte("\x00\x00\x01\x03\x00\x02xx"), 0, nil, letters("x"), 8)
	checkPut(t, w, nil, letters("a"), letters("xab"), []byte("\x00\x00\x03\x03\x04\x01\x02"+newB))
	w.Take([]byte("\x00\x01q"), 0)
	checkTake(t, w, []byte{1, 0, 1, 7, 5}, 0, letters("xa"), []api.Header{letters("x")[0], {Name: "q", Value: "b"}}, 5)
	checkStrings(t, w, "a", "aa", "x", "xx", "b", "bb", "q")
}

// TestNilTable has calls whose results the document leaves open.
func TestNilTable(t *testing.T) {
	for _, p := range pairs {
		Put(nil, nil, letters(p.was), letters(p.list))
		Put(spare([]byte{1}), nil, letters(p.was), letters(p.list))
		for at := -1; at < len(p.want)+2; at++ {
			Take([]byte(p.want), at, nil, letters(p.was))
		}
	}
}

// randomHeader returns a header that is often one of a few.
func randomHeader(r *rand.Rand) api.Header {
	if r.Intn(12) == 0 {
		return api.Header{Name: long(r.Intn(2100)), Value: long(r.Intn(2100))}
	}
	some := []string{"", "a", "b", "A", "ab"}
	return api.Header{Name: some[r.Intn(5)], Value: some[r.Intn(1+r.Intn(5))]}
}

// randomList returns a list that is often like a previous one.
func randomList(r *rand.Rand, was []api.Header) []api.Header {
	out := slices.Clone(was)
	for range r.Intn(4) {
		switch i := r.Intn(len(out) + 1); r.Intn(4) {
		case 0:
			out = slices.Delete(out, i, min(i+1+r.Intn(3), len(out)))
		case 1:
			out = slices.Replace(out, i, min(i+1, len(out)), randomHeader(r))
		case 2:
			out = slices.Insert(out, i, randomHeader(r))
		default:
			out = slices.Concat(out, out[min(i, len(out)):])[:min(2*len(out)-i, 30)]
		}
	}
	return out
}

// randomBytes returns what may be the encoding of a list relative to another.
func randomBytes(r *rand.Rand, strings int, was []api.Header) []byte {
	small := func(most int) uint64 {
		if r.Intn(60) == 0 {
			return r.Uint64() >> r.Intn(64)
		}
		return uint64(r.Intn(most + 1))
	}
	first := small(len(was))
	fresh := r.Intn(3)
	b := numbers(first, small(max(len(was)-int(min(first, 99)), 0)), uint64(fresh))
	for range 2 * fresh {
		if n := uint64(r.Intn(strings + 2)); n > 0 {
			b = append(b, number(n)...)
			continue
		}
		b = append(b, written(long(r.Intn(2060)))...)
	}
	return b
}

// TestRandom compares sequences of calls with those of the model, twice.
func TestRandom(t *testing.T) {
	seen := map[api.Errno]int{}
	for seed := range int64(600) {
		var results [2][]byte
		for turn := range results {
			r := rand.New(rand.NewSource(seed))
			w, p := intern.New(), &plain{}
			var b []byte
			var was []api.Header
			for range 30 {
				list := randomList(r, was)
				at := len(b)
				if r.Intn(2) == 0 {
					want := plainPut(nil, p, was, list)
					checkPut(t, w, spare(b), roomy(was), roomy(list), want)
					b, was = append(b, want...), list
					continue
				}
				more := plainPut(nil, &plain{list: slices.Clone(p.list)}, was, list)
				if r.Intn(2) == 0 {
					more = randomBytes(r, len(p.list), was)
				}
				if i := r.Intn(len(more)); r.Intn(6) == 0 {
					more[i] = byte(r.Intn(256))
				}
				b = slices.Concat(b, more, []byte("\x00\x01\x80")[:r.Intn(4)])
				if r.Intn(12) == 0 {
					at = []int{-1 - r.Intn(3), len(b) + 1 + r.Intn(3), r.Intn(len(b) + 1)}[r.Intn(3)]
				}
				list, _, e := checkPlainTake(t, w, p, spare(b), at, roomy(was))
				if e == api.OK {
					was = list
				}
				seen[e]++
			}
			checkStrings(t, w, p.list...)
			results[turn] = Put(b, w, nil, was)
		}
		if !bytes.Equal(results[0], results[1]) {
			t.Fatalf("seed %d: the same calls returned other results", seed)
		}
	}
	for _, e := range []api.Errno{api.OK, api.ErrArg, api.ErrOver, api.ErrForm, api.ErrNone, api.ErrShort} {
		if seen[e] < 50 {
			t.Errorf("error %d occurred %d times", e, seen[e])
		}
	}
}

func FuzzDelta(f *testing.F) {
	f.Add([]byte{1, 1, 1, 0, 1, 'x', 0, 1, '4'}, 0, "abc")
	f.Add([]byte("\x00\x00\x02"+newA+newB+"\x01\x01\x00\x00\x01\x00"), 0, "")
	f.Add([]byte{9, 0, 1, 0}, 1, "aa")
	f.Add(numbers(13, 13, 0), 0, "abcdefghijklmnopqrstuvwxyz")
	f.Add([]byte{0, 0, 128, 0}, -1, "ab")
	f.Fuzz(func(t *testing.T, b []byte, at int, names string) {
		w, p := intern.New(), &plain{}
		start := letters(names)
		was, next, e := start, at, api.OK
		v := intern.New()
		var again []byte
		for {
			var list []api.Header
			from := next
			if list, next, e = checkPlainTake(t, w, p, b, from, was); e != api.OK {
				break
			}
			again = Put(again, v, was, list)
			if !bytes.Equal(again, b[at:next]) {
				t.Fatalf("%s is written again as %s", show(b[at:next]), show(again))
			}
			was = list
		}
		checkStrings(t, w, p.list...)
		list := letters(string(b))
		want := plainPut(b, &plain{}, start, list)
		checkPut(t, intern.New(), b, start, list, want[len(b):])
	})
}
