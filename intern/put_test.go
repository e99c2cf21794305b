package intern

import (
	"bytes"
	"fmt"
	"slices"
	"strings"
	"testing"

	"pursuivant/api"
)

func TestNumbers(t *testing.T) {
	if api.MaxBody != 2048 || api.OK != 0 || api.ErrArg != 1 || api.ErrOver != 2 || api.ErrForm != 4 || api.ErrNone != 5 || api.ErrShort != 7 {
		t.Error(api.MaxBody, api.OK, api.ErrArg, api.ErrOver, api.ErrForm, api.ErrNone, api.ErrShort)
	}
}

func TestExample(t *testing.T) {
	x := New()
	var b []byte
	for i, s := range []string{"a", "b", "a"} {
		b = x.Put(b, s)
		if want := []int{1, 2, 2}[i]; x.Len() != want {
			t.Errorf("Len() = %d behind %d strings, want %d", x.Len(), i+1, want)
		}
	}
	if want := []byte{0, 1, 97, 0, 1, 98, 1}; !bytes.Equal(b, want) {
		t.Errorf("a, b, a are encoded as %v, want %v", b, want)
	}
}

func TestNewIsEmpty(t *testing.T) {
	for range 3 {
		x := New()
		if x == nil || x.Len() != 0 {
			t.Fatalf("New() = %v", x)
		}
		checkNew(t, x)
	}
	checkNew(t, &Table{})
}

// TestLen counts behind each call, whatever it is.
func TestLen(t *testing.T) {
	x := New()
	check := func(want int) {
		t.Helper()
		for range 2 {
			if x.Len() != want {
				t.Fatalf("Len() = %d, want %d", x.Len(), want)
			}
		}
	}
	check(0)
	for i := range 300 {
		s := fmt.Sprint(i)
		if i%2 == 0 {
			x.Put(nil, s)
		} else {
			x.Take(written(s), 0)
		}
		check(i + 1)
		x.Put([]byte{1, 2}, s)
		check(i + 1)
		x.Take(number(uint64(i)+1), 0)
		check(i + 1)
		for _, b := range [][]byte{nil, {128}, {128, 0}, {0}, {0, 128}, {0, 128, 0}, {0, 1}, []byte{0, 0, 0}[:1], number(uint64(i) + 2), written(s), announced(2049, long(2049))} {
			x.Take(b, 0)
			check(i + 1)
			x.Take(b, -1)
			check(i + 1)
			x.Take(b, len(b)+1)
			check(i + 1)
		}
	}
}

// TestApart fills two Tables by turns.
func TestApart(t *testing.T) {
	x, y := New(), New()
	var xs, ys []string
	for i := range 40 {
		first, second := fmt.Sprint("x", i), fmt.Sprint("y", i)
		checkPut(t, x, nil, first, written(first))
		xs = append(xs, first)
		checkList(t, x, xs...)
		checkList(t, y, ys...)
		checkTake(t, y, written(second), 0, second, len(second)+2)
		ys = append(ys, second)
		checkPut(t, y, nil, first, written(first))
		ys = append(ys, first)
		checkList(t, x, xs...)
		checkList(t, y, ys...)
	}
	checkNew(t, y, ys...)
	checkNew(t, x, xs...)
	checkNew(t, New())
}

func TestPutFollowsBytes(t *testing.T) {
	for _, b := range [][]byte{nil, {}, {0}, {1}, {128}, {255, 255}, {0, 1, 97}, []byte(every()), []byte(long(5000))} {
		for _, s := range []string{"", "a", "ab", every(), long(3000)} {
			x := made(t, "u", "v")
			checkPut(t, x, b, s, written(s))
			checkPut(t, x, b, s, []byte{3})
			checkPut(t, x, b, "u", []byte{1})
			checkPut(t, x, b, "v", []byte{2})
			checkList(t, x, "u", "v", s)
		}
	}
}

func TestPutLeavesSpareCapacity(t *testing.T) {
	for size := range 9 {
		for _, s := range []string{"", "a", "abcdefgh", long(30), long(200)} {
			x := New()
			checkPut(t, x, spare([]byte(every()[:size])), s, written(s))
			checkPut(t, x, spare([]byte(every()[:size])), s, []byte{1})
		}
	}
}

// TestPutSharesNothing changes all of what Put returned, and checks what it
// returned before, what it was given, and what it returns afterwards.
func TestPutSharesNothing(t *testing.T) {
	for _, size := range []int{0, 1, 7, 8, 60, 500} {
		b := spare([]byte(long(size)))
		before := slices.Clone(b[:cap(b)])
		x := New()
		var results, wants [][]byte
		for _, s := range []string{"", "a", "a", "", long(40), long(40), long(1000), "a"} {
			m := &plain{list: contents(x)}
			wants = append(wants, m.put(b, s))
			results = append(results, x.Put(b, s))
		}
		for i := range results {
			if !bytes.Equal(results[i], wants[i]) {
				t.Fatalf("the result %d is %s, want %s", i, show(results[i]), show(wants[i]))
			}
			fill(results[i])
		}
		if !bytes.Equal(b[:cap(b)], before) {
			t.Fatal("a change of the results changed the argument")
		}
		checkNew(t, x, "", "a", long(40), long(1000))
	}
}

// contents returns the strings of a Table.
func contents(x *Table) []string {
	var out []string
	for i := range x.Len() {
		s, _, _ := x.Take(number(uint64(i)+1), 0)
		out = append(out, s)
	}
	return out
}

// TestPutResultIsSteady changes what Put was given.
func TestPutResultIsSteady(t *testing.T) {
	x := New()
	b := spare([]byte{1, 2, 3})
	first := x.Put(b, "abc")
	second := x.Put(b, "abc")
	fill(b)
	x.Put(first[:2], "d")
	if !bytes.Equal(first, []byte{1, 2, 3, 0, 3, 'a', 'b', 'c'}) || !bytes.Equal(second, []byte{1, 2, 3, 1}) {
		t.Error(first, second)
	}
	checkNew(t, x, "abc", "d")
}

func TestPutEmptyString(t *testing.T) {
	x := New()
	checkPut(t, x, nil, "", []byte{0, 0})
	checkPut(t, x, nil, "", []byte{1})
	checkPut(t, x, nil, "a", []byte{0, 1, 'a'})
	checkPut(t, x, nil, "", []byte{1})
	checkNew(t, x, "", "a")

	x = made(t, "a", "b")
	checkPut(t, x, []byte{5}, "", []byte{0, 0})
	checkPut(t, x, []byte{5}, "", []byte{3})
	checkPut(t, x, []byte{5}, "", []byte{3})
	checkNew(t, x, "a", "b", "")
}

func TestPutBytes(t *testing.T) {
	x := New()
	var list []string
	for c := range 256 {
		s := string([]byte{byte(c)})
		checkPut(t, x, nil, s, []byte{0, 1, byte(c)})
		checkPut(t, x, nil, s, number(uint64(c)+1))
		list = append(list, s)
	}
	checkNew(t, x, list...)
	checkNew(t, made(t, every()), every())
}

func TestPutLengths(t *testing.T) {
	heads := map[int][]byte{
		0: {0, 0}, 1: {0, 1}, 2: {0, 2}, 127: {0, 127}, 128: {0, 128, 1}, 129: {0, 129, 1}, 255: {0, 255, 1}, 256: {0, 128, 2}, 2047: {0, 255, 15},
		2048: {0, 128, 16}, 2049: {0, 129, 16}, 16383: {0, 255, 127}, 16384: {0, 128, 128, 1}, 65536: {0, 128, 128, 4}, 1 << 21: {0, 128, 128, 128, 1},
	}
	for size, head := range heads {
		s := long(size)
		x := made(t, "first")
		checkPut(t, x, []byte{9}, s, slices.Concat(head, []byte(s)))
		checkPut(t, x, []byte{9}, s, []byte{2})
		checkNew(t, x, "first", s)
	}
}

func TestPutThrice(t *testing.T) {
	for _, s := range []string{"", "a", "\x00", every(), long(2049)} {
		x := New()
		checkPut(t, x, nil, s, written(s))
		checkPut(t, x, nil, s, []byte{1})
		checkPut(t, x, nil, s, []byte{1})
		checkPut(t, x, nil, "other", []byte("\x00\x05other"))
		checkPut(t, x, nil, s, []byte{1})
		checkPut(t, x, nil, "other", []byte{2})
		checkNew(t, x, s, "other")
	}
}

// TestPutNumbers has the numbers of more and more bytes.
func TestPutNumbers(t *testing.T) {
	known := map[int][]byte{
		1: {1}, 2: {2}, 126: {126}, 127: {127}, 128: {128, 1}, 129: {129, 1}, 255: {255, 1}, 256: {128, 2}, 257: {129, 2}, 300: {172, 2},
		16383: {255, 127}, 16384: {128, 128, 1}, 16385: {129, 128, 1}, 20000: {160, 156, 1},
	}
	x := New()
	for n := 1; n <= 20000; n++ {
		s := fmt.Sprint("s", n)
		checkPut(t, x, nil, s, written(s))
		if known[n] != nil {
			checkPut(t, x, nil, s, known[n])
			checkPut(t, x, nil, s, known[n])
			checkTake(t, x, known[n], 0, s, len(known[n]))
			checkPut(t, x, nil, "s1", []byte{1})
		}
	}
	for n, want := range known {
		checkPut(t, x, nil, fmt.Sprint("s", n), want)
		checkTake(t, x, want, 0, fmt.Sprint("s", n), len(want))
	}
}

// TestPutSimilar has strings that begin with others or differ in a byte or a case.
func TestPutSimilar(t *testing.T) {
	list := slices.Clone(similar)
	for range 2 {
		x := New()
		for i, s := range list {
			checkPut(t, x, nil, s, written(s))
			checkList(t, x, list[:i+1]...)
		}
		checkNew(t, x, list...)
		slices.Reverse(list)
	}
}

// TestPutOneByteApart has strings that differ in one byte, at each place.
func TestPutOneByteApart(t *testing.T) {
	base := strings.Repeat("x", 100)
	x := New()
	list := []string{base}
	checkPut(t, x, nil, base, written(base))
	for i := range base {
		for _, c := range []byte{'X', 'y', 0, 255} {
			s := base[:i] + string([]byte{c}) + base[i+1:]
			checkPut(t, x, nil, s, written(s))
			list = append(list, s)
		}
		checkPut(t, x, nil, base[:i], written(base[:i]))
		list = append(list, base[:i])
	}
	checkNew(t, x, list...)
}
