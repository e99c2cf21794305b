package intern

import (
	"bytes"
	"fmt"
	"math"
	"slices"
	"strings"
	"testing"

	"pursuivant/api"
)

var abc = []string{"a", "", "bc"}

// great holds numbers, some of which have small ones as their lowest bits.
var great = []uint64{
	1 << 16, 1<<16 + 1, 1<<31 - 1, 1 << 31, 1<<31 + 1, 1<<32 - 1, 1 << 32, 1<<32 + 1, 1<<32 + 2, 1<<32 + 2048, 1<<40 + 3, 1<<53 + 1, 1<<62 + 1,
	1<<63 - 1, 1 << 63, 1<<63 + 1, 1<<63 + 3, 1<<64 - 2048, math.MaxUint64 - 2, math.MaxUint64 - 1, math.MaxUint64,
}

// wrong holds starts that chapter 1's Take refuses.
func wrong() map[string]api.Errno {
	out := map[string]api.Errno{"": api.ErrShort, strings.Repeat("\xFF", 9) + "\x02": api.ErrForm, strings.Repeat("\x80", 9) + "\x7F": api.ErrForm}
	for _, c := range []string{"\x80", "\x81", "\xFF"} {
		for many := 1; many < 13; many++ {
			s := strings.Repeat(c, many)
			out[s], out[s+"\x00"], out[s+"\x00a"] = api.ErrShort, api.ErrForm, api.ErrForm
			if many >= 10 {
				out[s], out[s+"\x01"] = api.ErrForm, api.ErrForm
			}
		}
	}
	return out
}

func TestTakeOffsetOutside(t *testing.T) {
	for _, b := range [][]byte{nil, {}, {0}, {1}, {128}, {0, 1, 'q'}, {0, 0}, []byte(long(300))} {
		for _, at := range []int{math.MinInt, math.MinInt + 1, -1 << 32, -1<<31 - 1, -300, -2, -1, len(b) + 1, len(b) + 2, len(b) + 300, 1 << 31, 1 << 32, math.MaxInt - 1, math.MaxInt} {
			checkError(t, abc, spare(b), at, api.ErrArg)
		}
		checkError(t, abc, spare(b), len(b), api.ErrShort)
	}
}

func TestTakeOffsets(t *testing.T) {
	for at := range 300 {
		for _, more := range []string{"", "\x00", "\x7F", "\x80", "\xFF\xFF\xFF\xFF\xFF\xFF\xFF\xFF\xFF\xFF\xFF"} {
			b := spare(slices.Concat([]byte(long(at)), []byte("\x00\x02hi"), []byte(more)))
			checkTake(t, made(t, abc...), b, at, "hi", at+4)
			b = spare(slices.Concat([]byte(long(at)), []byte{3}, []byte(more)))
			checkTake(t, made(t, abc...), b, at, "bc", at+1)
		}
	}
}

func TestTakeFirstNumberWrong(t *testing.T) {
	for s, e := range wrong() {
		checkErrorAnywhere(t, nil, []byte(s), e)
		checkErrorAnywhere(t, abc, []byte(s), e)
	}
}

func TestTakeSecondNumberWrong(t *testing.T) {
	for s, e := range wrong() {
		checkErrorAnywhere(t, nil, []byte("\x00"+s), e)
		checkErrorAnywhere(t, abc, []byte("\x00"+s), e)
	}
	// A 0 with more than one byte is no number, so it does not lead to a length.
	checkErrorAnywhere(t, abc, []byte("\x80\x00\x01q"), api.ErrForm)
}

func TestTakeNumberAboveLen(t *testing.T) {
	for count := range 4 {
		list := []string{"a", "", "bc", "d"}[:count]
		for n := uint64(count) + 1; n < 300; n++ {
			checkError(t, list, number(n), 0, api.ErrNone)
		}
		for _, n := range great {
			checkErrorAnywhere(t, list, number(n), api.ErrNone)
			checkErrorAnywhere(t, list, slices.Concat(number(n), []byte("\x01q")), api.ErrNone)
		}
	}
	// Where the number of strings needs one byte more than the one before it.
	for _, count := range []int{127, 128, 255, 256} {
		var list []string
		for i := range count {
			list = append(list, fmt.Sprint(i))
		}
		checkError(t, list, number(uint64(count)+1), 0, api.ErrNone)
		checkError(t, list, number(uint64(count)+128), 0, api.ErrNone)
	}
}

func TestTakeNumbers(t *testing.T) {
	for _, build := range []func(*testing.T, ...string) *Table{made, read} {
		var list []string
		for i := range 400 {
			list = append(list, fmt.Sprint(i))
		}
		x := build(t, list...)
		for _, n := range []int{1, 2, 3, 100, 126, 127, 128, 129, 130, 199, 255, 256, 257, 398, 399, 400, 1} {
			b := spare(slices.Concat([]byte{0, 1, 'q'}, number(uint64(n)), []byte{0, 1, 'r'}))
			checkTake(t, x, b, 3, fmt.Sprint(n-1), len(b)-3)
		}
		checkNew(t, x, list...)
	}
	checkTake(t, made(t, "only"), []byte{1}, 0, "only", 1)
	checkTake(t, made(t, ""), []byte{1}, 0, "", 1)
	// What only Put can add is taken by its number too.
	checkTake(t, made(t, long(5000)), []byte{1}, 0, long(5000), 1)
}

func TestTakeLengths(t *testing.T) {
	for _, size := range []int{0, 1, 2, 10, 126, 127, 128, 129, 255, 256, 257, 1000, 2046, 2047, 2048} {
		s := long(size)
		for _, ahead := range []int{0, 1, 200} {
			for _, more := range []int{0, 1, 300} {
				x := made(t, "first")
				b := spare(slices.Concat([]byte(long(ahead)), written(s), []byte(long(more))))
				checkTake(t, x, b, ahead, s, len(b)-more)
				checkNew(t, x, "first", s)
			}
		}
	}
}

func TestTakeLengthsOver(t *testing.T) {
	for _, size := range append(slices.Clone(great), 2049, 2050, 2176, 3000, 4096, 1<<14, 1<<16-1) {
		for _, rest := range []int{0, 1, 2, 128, 2047, 2048, 2049, 2050, 5000} {
			checkError(t, nil, announced(size, long(rest)), 0, api.ErrOver)
			checkError(t, abc, announced(size, long(rest)), 0, api.ErrOver)
		}
		checkErrorAnywhere(t, abc, announced(size, ""), api.ErrOver)
		checkError(t, abc, announced(size, long(int(min(size, 70000)))), 0, api.ErrOver)
		// A string that is there already, by Put.
		x := made(t, long(2049))
		if s, next, e := x.Take(announced(size, long(2049)), 0); s != "" || next != 0 || e != api.ErrOver {
			t.Errorf("a length of %d: %s, %d, %d", size, show(s), next, e)
		}
		checkNew(t, x, long(2049))
	}
}

func TestTakeShort(t *testing.T) {
	for _, size := range []int{1, 2, 3, 10, 127, 128, 129, 255, 256, 2047, 2048} {
		for _, less := range []int{1, 2, size / 2, size - 1, size} {
			if less < 1 || less > size {
				continue
			}
			// Neither bytes behind the length of b nor those before it count.
			b := written(long(size))
			checkError(t, abc, b[:len(b)-less], 0, api.ErrShort)
			checkError(t, abc, slices.Concat([]byte(long(3000)), b)[:3000+len(b)-less], 3000, api.ErrShort)
		}
		x := made(t, abc...)
		b := written(long(size))
		checkTake(t, x, b, 0, long(size), len(b))
	}
	// Of strings that are there already, too few bytes are reported first.
	for _, s := range []string{"a", "bc"} {
		checkErrorAnywhere(t, abc, []byte("\x00\x02a"), api.ErrShort)
		checkErrorAnywhere(t, abc, announced(uint64(len(s))+1, s), api.ErrShort)
		checkErrorAnywhere(t, abc, announced(2048, s), api.ErrShort)
	}
	checkErrorAnywhere(t, abc, []byte("\x00\x01"), api.ErrShort)
	checkErrorAnywhere(t, []string{"b", "bc"}, []byte("\x00\x02b"), api.ErrShort)
}

func TestTakeTwice(t *testing.T) {
	for _, s := range []string{"", "a", "ab", "\x00", every(), long(127), long(128), long(2047), long(2048)} {
		for _, more := range []string{"", "\x00", "abc", long(300)} {
			b := slices.Concat(written(s), []byte(more))
			checkErrorAnywhere(t, []string{s}, b, api.ErrForm)
			checkErrorAnywhere(t, []string{s, "zz"}, b, api.ErrForm)
			checkErrorAnywhere(t, []string{"yy", s, "zz"}, b, api.ErrForm)
			checkErrorAnywhere(t, []string{"yy", s}, b, api.ErrForm)
		}
	}
}

// TestTakeSimilar has strings that begin with others or differ in a byte or a case.
func TestTakeSimilar(t *testing.T) {
	list := slices.Clone(similar)
	for range 2 {
		x := New()
		for i, s := range list {
			checkTake(t, x, spare(written(s)), 0, s, len(s)+2)
			checkList(t, x, list[:i+1]...)
		}
		checkNew(t, x, list...)
		slices.Reverse(list)
	}
}

func TestTakeBytes(t *testing.T) {
	x := New()
	var list []string
	for c := range 256 {
		s := string([]byte{byte(c)})
		checkTake(t, x, []byte{0, 1, byte(c), byte(c)}, 0, s, 3)
		list = append(list, s)
	}
	checkNew(t, x, list...)
	checkNew(t, read(t, every()), every())
}

// TestTakeIsSteady changes the bytes that strings were taken from.
func TestTakeIsSteady(t *testing.T) {
	for _, list := range [][]string{{"abc"}, {"", "a", "bc", every()}, {long(2048), long(2047)}} {
		x := New()
		var b []byte
		for _, s := range list {
			b = append(b, written(s)...)
		}
		b = spare(b)
		var got []string
		for at := 0; at < len(b); {
			s, next, e := x.Take(b, at)
			if e != api.OK {
				t.Fatal(e)
			}
			got, at = append(got, s), next
		}
		fill(b)
		if !slices.Equal(got, list) {
			t.Errorf("a change of the bytes changed %s to %s", show(list), show(got))
		}
		checkNew(t, x, list...)
	}
}

// TestTakeAllShortTexts has all pairs of bytes, and some more behind them.
func TestTakeAllShortTexts(t *testing.T) {
	for first := range 256 {
		for second := range 256 {
			for _, more := range []string{"", "\x00", "\x01", "a", "ab", "bc", "bcd", "\x80\x01"} {
				b := slices.Concat([]byte{byte(first), byte(second)}, []byte(more))
				for at := range 4 {
					x, m := New(), &plain{}
					for _, s := range abc {
						x.Put(nil, s)
						m.put(nil, s)
					}
					checkPlainTake(t, x, m, b, at)
				}
			}
		}
	}
}

// checkPlainTake compares Take with that of the model.
func checkPlainTake(t *testing.T, x *Table, m *plain, b []byte, at int) (next int, e api.Errno) {
	t.Helper()
	before := slices.Clone(b)
	want, wantNext, wantE := m.take(b, at)
	s, next, e := x.Take(b, at)
	if s != want || next != wantNext || e != wantE || x.Len() != len(m.list) {
		t.Fatalf("Take(%s, %d) with %s = %s, %d, %d, want %s, %d, %d", show(b), at, show(m.list), show(s), next, e, show(want), wantNext, wantE)
	}
	if !bytes.Equal(b, before) {
		t.Fatalf("Take(%s, %d) changed its argument", show(before), at)
	}
	return next, e
}
