package delta

import (
	"fmt"
	"math"
	"slices"
	"strings"
	"testing"

	"pursuivant/api"
	"pursuivant/intern"
)

// great holds numbers, some of which have small ones as their lowest bits.
var great = []uint64{
	128, 256, 1 << 14, 1 << 16, 1<<16 + 1, 1<<31 - 1, 1 << 31, 1<<32 - 1, 1 << 32, 1<<32 + 1, 1<<32 + 3, 1<<40 + 3, 1<<53 + 1, 1<<62 - 1, 1 << 62, 1<<62 + 1,
	1<<63 - 2, 1<<63 - 1, 1 << 63, 1<<63 + 1, 1<<63 + 3, 1<<64 - 256, 1<<64 - 26, 1<<64 - 25, 1<<64 - 24, 1<<64 - 4, 1<<64 - 3, math.MaxUint64 - 1, math.MaxUint64,
}

// wrong holds starts that chapter 1's Take refuses.
func wrong() map[string]api.Errno {
	out := map[string]api.Errno{"": api.ErrShort, strings.Repeat("\xFF", 9) + "\x02": api.ErrForm, strings.Repeat("\x80", 9) + "\x7F": api.ErrForm}
	for _, c := range []string{"\x80", "\x81", "\xFF"} {
		for many := 1; many < 13; many++ {
			s := strings.Repeat(c, many)
			out[s], out[s+"\x00"], out[s+"\x00\x00\x00"] = api.ErrShort, api.ErrForm, api.ErrForm
			if many >= 10 {
				out[s], out[s+"\x01"] = api.ErrForm, api.ErrForm
			}
		}
	}
	return out
}

// wrongStrings holds starts that chapter 19's Take refuses with a Table that has
// the strings p and qq.
func wrongStrings() map[string]api.Errno {
	out := wrong()
	for s, e := range wrong() {
		out["\x00"+s] = e
	}
	for _, n := range append(slices.Clone(great), 2049, 3000) {
		out[string(number(n))] = api.ErrNone
		if n > 2048 {
			out["\x00"+string(number(n))] = api.ErrOver
			out["\x00"+string(number(n))+long(3000)] = api.ErrOver
		}
	}
	out["\x00\x01"], out["\x00\x02p"], out["\x00\x80\x10"+long(2047)] = api.ErrShort, api.ErrShort, api.ErrShort
	out["\x00\x01p"], out["\x00\x02qq"], out["\x00\x01pqq"] = api.ErrForm, api.ErrForm, api.ErrForm
	return out
}

var pq = []string{"p", "qq"}

func TestTakeOffsetOutside(t *testing.T) {
	for _, b := range [][]byte{nil, {}, {0}, {128}, {0, 0, 0}, []byte("\x00\x00\x01" + newA), []byte(long(300))} {
		for _, was := range [][]api.Header{nil, letters("ab"), many(30)} {
			for _, at := range []int{math.MinInt, math.MinInt + 1, -1 << 32, -1<<31 - 1, -300, -3, -2, -1, len(b) + 1, len(b) + 2, len(b) + 3, len(b) + 300, 1 << 31, 1 << 32, math.MaxInt - 1, math.MaxInt} {
				checkError(t, pq, spare(b), at, roomy(was), api.ErrArg)
			}
			checkError(t, pq, spare(b), len(b), roomy(was), api.ErrShort)
		}
	}
}

// TestTakeOffsets has lists at the beginning, in the middle and at the end.
func TestTakeOffsets(t *testing.T) {
	for at := range 300 {
		for _, more := range []string{"", "\x00", "\x7F", "\x80", "\x00\x00\x00", "\xFF\xFF\xFF\xFF\xFF\xFF\xFF\xFF\xFF\xFF\xFF"} {
			for _, p := range pairs[at%len(pairs):][:1] {
				b := spare(slices.Concat([]byte(long(at)), []byte(p.want), []byte(more)))
				checkTake(t, intern.New(), b, at, roomy(letters(p.was)), letters(p.list), at+len(p.want))
			}
			b := spare(slices.Concat([]byte(long(at)), []byte("\x01\x01\x01\x02\x00\x01r"), []byte(more)))
			w := made(pq...)
			checkTake(t, w, b, at, letters("ab"), []api.Header{{Name: "a", Value: "aa"}, {Name: "qq", Value: "r"}, {Name: "b", Value: "bb"}}, at+7)
			checkStrings(t, w, "p", "qq", "r")
		}
	}
}

// TestTakeNumberWrong has each of the three numbers, with greater ones than
// allowed ahead of it, as the number is refused first.
func TestTakeNumberWrong(t *testing.T) {
	for s, e := range wrong() {
		for _, was := range [][]api.Header{nil, letters("a"), letters("abc"), many(40)} {
			checkErrorAnywhere(t, pq, []byte(s), was, e)
			for _, first := range []uint64{0, 1, 3, 4, 26, 41, 300, math.MaxUint64} {
				checkError(t, pq, slices.Concat(number(first), []byte(s)), 0, was, e)
				for _, second := range []uint64{0, 1, 4, 26, 41, math.MaxUint64} {
					checkError(t, pq, slices.Concat(number(first), number(second), []byte(s)), 0, was, e)
				}
			}
			checkErrorAnywhere(t, pq, []byte("\x00"+s), was, e)
			checkErrorAnywhere(t, pq, []byte("\x00\x00"+s), was, e)
		}
	}
}

// TestTakePrefixAndSuffixAbove has a prefix and a suffix of more headers than
// the previous list has.
func TestTakePrefixAndSuffixAbove(t *testing.T) {
	for size := range 31 {
		was := many(size)
		for first := range uint64(size) + 1 {
			last := uint64(size) - first
			for _, fresh := range []uint64{0, 1, 25, 26, math.MaxUint64} {
				checkError(t, pq, numbers(first, last+1, fresh), 0, was, api.ErrNone)
				checkError(t, pq, numbers(first+1, last, fresh), 0, was, api.ErrNone)
			}
		}
		for _, n := range great {
			for _, fresh := range []uint64{0, 1, 26, math.MaxUint64} {
				for _, other := range []uint64{0, 1, uint64(size), n, math.MaxUint64, -n, -n + 1, -n + uint64(size), 1<<63 - n, 1 << 63} {
					// The sums of some of these are small if they wrap around.
					checkError(t, pq, numbers(n, other, fresh), 0, was, api.ErrNone)
					checkError(t, pq, numbers(other, n, fresh), 0, was, api.ErrNone)
				}
			}
		}
		checkErrorAnywhere(t, pq, append(numbers(uint64(size), 1, 1), newA...), was, api.ErrNone)
		checkErrorAnywhere(t, pq, append(numbers(uint64(size)+1, 0, 1), newA...), was, api.ErrNone)
		checkErrorAnywhere(t, pq, append(numbers(0, uint64(size)+1, 1), newA...), was, api.ErrNone)
	}
	// Headers behind the length of the previous list do not count.
	checkError(t, pq, []byte{3, 0, 0}, 0, roomy(letters("ab")), api.ErrNone)
	checkError(t, pq, []byte{0, 3, 0}, 0, roomy(letters("ab")), api.ErrNone)
}

// TestTakeWholeList has a prefix and a suffix that make up the previous list.
func TestTakeWholeList(t *testing.T) {
	for size := range 26 {
		was := many(size)
		checkTake(t, intern.New(), numbers(uint64(size), 0, 0), 0, was, was, 3)
		for first := range size {
			checkError(t, pq, numbers(uint64(first), uint64(size-first), 0), 0, was, api.ErrForm)
		}
		if size == 25 {
			continue
		}
		for first := range size + 1 {
			b := append(numbers(uint64(first), uint64(size-first), 1), newA...)
			checkTake(t, intern.New(), b, 0, was, slices.Concat(was[:first], letters("a"), was[first:]), len(b))
		}
	}
}

// TestTakeOver has lists of 25 headers and of more.
func TestTakeOver(t *testing.T) {
	was := many(60)
	for first := range uint64(30) {
		for last := range uint64(30) {
			kept := first + last
			for fresh := range uint64(30) {
				if kept+fresh > 25 {
					checkError(t, pq, numbers(first, last, fresh), 0, was, api.ErrOver)
				}
			}
			for _, fresh := range append(slices.Clone(great), 26-kept, 27-kept, -kept, 1-kept, 24-kept, 25-kept) {
				if above(25, first, last, fresh) {
					checkError(t, pq, append(numbers(first, last, fresh), newA...), 0, was, api.ErrOver)
				}
			}
			if kept > 25 {
				checkErrorAnywhere(t, pq, append(numbers(first, last, 0), 0, 0), was, api.ErrOver)
				checkErrorAnywhere(t, pq, append(numbers(first, last, 1), newA...), was, api.ErrOver)
				continue
			}
			fresh := 25 - kept
			list := slices.Clone(was[:first])
			for range fresh {
				list = append(list, letters("x")...)
			}
			list = append(list, was[60-last:]...)
			b := plainPut(nil, &plain{}, was, list)
			checkTake(t, intern.New(), b, 0, was, list, len(b))
			b = plainPut(nil, &plain{}, was, slices.Insert(list, int(first), letters("x")[0]))
			checkError(t, nil, b, 0, was, api.ErrOver)
		}
	}
	for _, last := range []uint64{26, 30, 59, 60} {
		checkErrorAnywhere(t, pq, numbers(last, 0, 0), was, api.ErrOver)
		checkErrorAnywhere(t, pq, numbers(0, last, 0), was, api.ErrOver)
		checkErrorAnywhere(t, pq, numbers(60-last, last, 0), was, api.ErrOver)
	}
}

// TestTakeNoneAheadOfOver has numbers to which both errors apply.
func TestTakeNoneAheadOfOver(t *testing.T) {
	for _, size := range []int{0, 1, 2, 12, 24, 25, 26, 40} {
		was, n := many(size), uint64(size)
		for _, fresh := range append(slices.Clone(great), 0, 1, 24, 25, 26) {
			for first := range n + 3 {
				for _, last := range []uint64{n + 1 - min(first, n+1), n + 2, 26 + n, math.MaxUint64} {
					want := api.ErrNone
					if !above(size, first, last) {
						want = api.ErrOver
					}
					if above(size, first, last) || above(25, first, last, fresh) {
						checkError(t, nil, numbers(first, last, fresh), 0, was, want)
					}
				}
			}
		}
	}
}

// TestTakeStringWrong has each string of the first, a middle and the last new
// header, behind others that stay in the Table.
func TestTakeStringWrong(t *testing.T) {
	for s, e := range wrongStrings() {
		for _, was := range [][]api.Header{nil, letters("kl"), many(20)} {
			for _, c := range []struct {
				fresh byte
				ahead string
				added []string
			}{
				{1, "", nil}, {1, "\x00\x01r", []string{"r"}}, {1, "\x01", nil},
				{3, "", nil}, {3, "\x00\x00", []string{""}},
				{3, "\x01\x00\x01r", []string{"r"}}, {3, "\x01\x00\x01r\x00\x01s", []string{"r", "s"}},
				{3, "\x00\x01r\x03\x03\x00\x02st", []string{"r", "st"}}, {3, "\x00\x01r\x03\x03\x00\x02st\x00\x00", []string{"r", "st", ""}},
				{5, "\x01\x01\x01\x01\x01\x01\x01\x01", nil}, {5, "\x01\x01\x01\x01\x01\x01\x01\x01\x02", nil},
			} {
				head := []byte{0, 0, c.fresh}
				if len(was) > 0 {
					head = []byte{1, 1, c.fresh}
				}
				b := slices.Concat(head, []byte(c.ahead), []byte(s))
				checkError(t, pq, b, 0, was, e, c.added...)
			}
		}
		checkErrorAnywhere(t, pq, []byte("\x01\x01\x02\x00\x01r"+s), letters("abc"), e, "r")
		checkErrorAnywhere(t, pq, []byte("\x01\x01\x02\x00\x01r\x03"+s), letters("abc"), e, "r")
	}
	// Of several strings that are wrong, the first one is reported.
	checkErrorAnywhere(t, pq, []byte("\x00\x00\x02\x00\x01r\x04\x00\x01r\x80\x00"), nil, api.ErrNone, "r")
	checkErrorAnywhere(t, pq, []byte("\x00\x00\x02\x00\x01r\x03\x00\x01r\x80\x00"), nil, api.ErrForm, "r")
	checkErrorAnywhere(t, pq, []byte("\x00\x00\x02\x00\x01r\x03\x00\x81\x10\x09"), nil, api.ErrOver, "r")
	// Strings that were added by the same list have numbers, and are not new.
	checkErrorAnywhere(t, nil, []byte("\x00\x00\x01\x00\x01r\x00\x01r"), nil, api.ErrForm, "r")
	checkErrorAnywhere(t, nil, []byte("\x00\x00\x02\x00\x01r\x01\x00\x01s\x00\x01r"), nil, api.ErrForm, "r", "s")
	checkErrorAnywhere(t, nil, []byte("\x00\x00\x01\x00\x01r\x02"), nil, api.ErrNone, "r")
}

// TestTakeCut has encodings that end too early, at each place.
func TestTakeCut(t *testing.T) {
	for _, p := range pairs {
		for size := range p.want {
			w, m := intern.New(), &plain{}
			_, _, e := plainTake([]byte(p.want[:size]), 0, m, letters(p.was))
			if e != api.ErrShort {
				t.Fatalf("the model takes %s with error %d", show(p.want[:size]), e)
			}
			b := []byte(p.want)[:size]
			if list, next, e := Take(b, 0, w, letters(p.was)); len(list) != 0 || next != 0 || e != api.ErrShort {
				t.Fatalf("Take(%s) = %s, %d, %d", show(b), show(list), next, e)
			}
			checkStrings(t, w, m.list...)
		}
	}
}

// TestTakeOtherDifference has prefixes and suffixes that are not the longest.
func TestTakeOtherDifference(t *testing.T) {
	for _, c := range []struct {
		was, b string
		added  []string
	}{
		{"a", "\x00\x01\x00", nil}, {"ab", "\x01\x01\x00", nil}, {"ab", "\x00\x02\x00", nil}, {"abc", "\x01\x02\x00", nil}, {"abc", "\x02\x01\x00", nil}, {"abc", "\x00\x03\x00", nil},
		// A header that belongs to the prefix is counted to the suffix.
		{"aa", "\x00\x01\x00", nil}, {"aaa", "\x01\x01\x00", nil}, {"aaa", "\x00\x02\x00", nil}, {"aaa", "\x00\x01\x00", nil}, {"aa", "\x01\x01\x01" + newA, []string{"a", "aa"}}, {"aa", "\x00\x02\x01" + newA, []string{"a", "aa"}}, {"aba", "\x00\x01\x00", nil}, {"ababa", "\x02\x01\x00", nil}, {"ababa", "\x01\x02\x00", nil}, {"abab", "\x00\x02\x00", nil}, {"a", "\x00\x01\x01" + newA, []string{"a", "aa"}},
		{"ab", "\x00\x02\x02" + newA + newB, []string{"a", "aa", "b", "bb"}}, {"aba", "\x00\x03\x02" + newA + newB, []string{"a", "aa", "b", "bb"}},
		// The prefix is smaller.
		{"a", "\x00\x00\x01" + newA, []string{"a", "aa"}}, {"abc", "\x00\x00\x03" + newA + newB + newC, []string{"a", "aa", "b", "bb", "c", "cc"}}, {"abc", "\x01\x00\x02" + newB + newC, []string{"b", "bb", "c", "cc"}}, {"abc", "\x02\x00\x01" + newC, []string{"c", "cc"}}, {"abc", "\x00\x02\x01" + newA, []string{"a", "aa"}}, {"abc", "\x00\x01\x02" + newA + newX, []string{"a", "aa", "x", "xx"}}, {"abc", "\x01\x01\x02" + newB + newX, []string{"b", "bb", "x", "xx"}}, {"abc", "\x00\x00\x01" + newA, []string{"a", "aa"}}, {"abc", "\x01\x00\x01" + newB, []string{"b", "bb"}}, {"abc", "\x00\x01\x01" + newA, []string{"a", "aa"}},
		// The suffix is smaller.
		{"abc", "\x00\x00\x01" + newC, []string{"c", "cc"}}, {"abc", "\x00\x01\x01" + newB, []string{"b", "bb"}}, {"abc", "\x00\x00\x02" + newB + newC, []string{"b", "bb", "c", "cc"}}, {"abc", "\x01\x00\x01" + newC, []string{"c", "cc"}}, {"abc", "\x01\x00\x02" + newX + newC, []string{"x", "xx", "c", "cc"}}, {"abc", "\x01\x01\x03" + newX + newY + newB, []string{"x", "xx", "y", "yy", "b", "bb"}}, {"abc", "\x00\x02\x02" + newX + newA, []string{"x", "xx", "a", "aa"}}, {"ab", "\x01\x00\x02" + newA + newB, []string{"a", "aa", "b", "bb"}}, {"abc", "\x00\x00\x03" + newX + newB + newC, []string{"x", "xx", "b", "bb", "c", "cc"}},
		// Both are.
		{"abc", "\x00\x00\x02" + newA + newC, []string{"a", "aa", "c", "cc"}}, {"abc", "\x00\x00\x03" + newA + newX + newC, []string{"a", "aa", "x", "xx", "c", "cc"}}, {"abcd", "\x01\x01\x03" + newB + newX + newC, []string{"b", "bb", "x", "xx", "c", "cc"}},
	} {
		checkErrorAnywhere(t, nil, []byte(c.b), letters(c.was), api.ErrForm, c.added...)
		checkErrorAnywhere(t, nil, []byte(c.b+"\x00\x00\x00"), letters(c.was), api.ErrForm, c.added...)
	}
	// It is the last of all errors.
	checkErrorAnywhere(t, nil, []byte("\x00\x00\x02"+newA), letters("a"), api.ErrShort, "a", "aa")
	checkErrorAnywhere(t, nil, []byte("\x00\x00\x02"+newA+"\x03"), letters("a"), api.ErrNone, "a", "aa")
	checkErrorAnywhere(t, nil, []byte("\x00\x00\x02"+newA+"\x01\x00\x81\x10"), letters("a"), api.ErrOver, "a", "aa")
	checkErrorAnywhere(t, nil, []byte("\x00\x02\x00"), letters("a"), api.ErrNone)
	checkErrorAnywhere(t, nil, []byte("\x00\x1A\x00"), same(26), api.ErrOver)
}

// TestTakeAllOtherDifferences has each list with each prefix, suffix and number
// of new headers, of which one alone is right.
func TestTakeAllOtherDifferences(t *testing.T) {
	for _, was := range short("ab", 4) {
		for _, list := range short("ab", 4) {
			right := 0
			for first := range len(was) + 1 {
				for last := range len(was) + 1 - first {
					fresh := len(list) - first - last
					if fresh < 0 || was[:first] != list[:first] || was[len(was)-last:] != list[len(list)-last:] {
						continue
					}
					b, p := numbers(uint64(first), uint64(last), uint64(fresh)), &plain{}
					for _, h := range letters(list)[first:][:fresh] {
						b = slices.Concat(b, p.put(h.Name), p.put(h.Value))
					}
					if a, z := plainDifference(letters(was), letters(list)); a == first && z == last {
						checkTake(t, intern.New(), b, 0, letters(was), letters(list), len(b))
						right++
						continue
					}
					checkError(t, nil, b, 0, letters(was), api.ErrForm, p.list...)
				}
			}
			if right != 1 {
				t.Fatalf("%s relative to %s is right in %d ways", list, was, right)
			}
		}
	}
}

// TestTakeFromLongList has previous lists of more than 25 headers.
func TestTakeFromLongList(t *testing.T) {
	for _, size := range []int{26, 27, 50, 127, 128, 300} {
		was := many(size)
		for _, first := range []int{0, 1, 12, 24, 25} {
			for _, last := range []int{0, 1, 12, 24, 25} {
				if first+last > 25 {
					continue
				}
				list := slices.Concat(was[:first], was[size-last:])
				checkTake(t, intern.New(), numbers(uint64(first), uint64(last), 0), 0, roomy(was), list, 3)
				if first+last < 25 {
					b := append(numbers(uint64(first), uint64(last), 1), newX...)
					checkTake(t, intern.New(), b, 0, roomy(was), slices.Insert(list, first, letters("x")[0]), len(b))
				}
			}
		}
		checkError(t, pq, numbers(uint64(size), 0, 0), 0, was, api.ErrOver)
		checkError(t, pq, numbers(0, uint64(size), 0), 0, was, api.ErrOver)
		checkError(t, pq, numbers(uint64(size), 1, 0), 0, was, api.ErrNone)
		checkTake(t, intern.New(), numbers(25, 0, 0), 0, same(size), same(25), 3)
		checkError(t, nil, numbers(0, 25, 0), 0, same(size), api.ErrForm)
		checkError(t, nil, numbers(24, 1, 0), 0, same(size), api.ErrForm)
	}
}

// TestTakeStrings has strings that the Table has already, and that occur again.
func TestTakeStrings(t *testing.T) {
	w := made(pq...)
	list := []api.Header{{Name: "p", Value: "qq"}, {Name: "r", Value: "r"}, {Name: "", Value: "p"}, {Name: "r", Value: ""}, {}}
	checkTake(t, w, []byte("\x00\x00\x05\x01\x02\x00\x01r\x03\x00\x00\x01\x03\x04\x04\x04"), 0, nil, list, 16)
	checkTake(t, w, []byte{0, 0, 5, 1, 2, 3, 3, 4, 1, 3, 4, 4, 4}, 0, letters("k"), list, 13)
	checkStrings(t, w, "p", "qq", "r", "")

	w = made(long(5000)) // which is too long to be written out
	checkTake(t, w, []byte{0, 0, 1, 1, 1}, 0, nil, []api.Header{{Name: long(5000), Value: long(5000)}}, 5)
	for _, s := range []string{"\x00", every(), "\u00E9", "\xFF", long(127), long(128), long(2047), long(2048)} {
		w = made(pq...)
		b := slices.Concat([]byte{1, 1, 2}, written(s), []byte{2, 1, 3})
		checkTake(t, w, b, 0, letters("xy"), []api.Header{letters("x")[0], {Name: s, Value: "qq"}, {Name: "p", Value: s}, letters("y")[0]}, len(b))
		checkStrings(t, w, "p", "qq", s)
	}

	var texts []string
	for i := range 300 {
		texts = append(texts, fmt.Sprint(i))
	}
	for _, build := range []func(...string) *intern.Table{made, read} {
		w = build(texts...)
		checkTake(t, w, []byte("\x00\x00\x03\x7F\x80\x01\xAC\x02\x01\x00\x03300\xAD\x02"), 0, nil, []api.Header{{Name: "126", Value: "127"}, {Name: "299", Value: "0"}, {Name: "300", Value: "300"}}, 16)
		checkStrings(t, w, append(slices.Clone(texts), "300")...)
	}
	checkTake(t, &intern.Table{}, []byte("\x00\x00\x01"+newA), 0, nil, letters("a"), 10)
}

// TestTakeMemory changes what Take returned and what it was given.
func TestTakeMemory(t *testing.T) {
	for _, p := range pairs {
		b, was := spare([]byte(p.want)), roomy(letters(p.was))
		before := whole(was)
		first, _, _ := Take(b, 0, intern.New(), was)
		second, _, _ := Take(b, 0, intern.New(), was)
		fillHeaders(first)
		if !slices.Equal(second, letters(p.list)) || !slices.Equal(whole(was), before) {
			t.Fatalf("a change of the first result changed another one, or the argument: %s, %s", show(second), show(was))
		}
		third, _, _ := Take(b, 0, intern.New(), was)
		fillHeaders(was)
		fill(b)
		if !slices.Equal(second, letters(p.list)) || !slices.Equal(third, letters(p.list)) {
			t.Fatalf("a change of the arguments changed the results to %s and %s", show(second), show(third))
		}
	}
}

// TestTakeShort has all starts of few bytes, and some more behind them.
func TestTakeShort(t *testing.T) {
	some := []byte{0, 1, 2, 3, 4, 24, 25, 26, 27, 127, 128, 255}
	for _, was := range [][]api.Header{nil, letters("a"), letters("aa"), letters("aba"), many(25), same(26), same(40)} {
		for _, first := range some {
			for _, second := range some {
				for _, third := range some {
					for _, more := range []string{"", "\x00", "\x01\x02", newA, "\x01\x00\x02aa", "\x00\x02aa\x01\x02\x01\x02\x01", newB + "\x01\x02\x03\x03", newX + newY + newA + newB, "\x80\x00"} {
						b := slices.Concat([]byte{first, second, third}, []byte(more))
						checkPlainTake(t, made("a"), &plain{list: []string{"a"}}, b, 0, was)
						checkPlainTake(t, made(), &plain{}, b, 1, was)
					}
				}
			}
		}
	}
}

// checkPlainTake compares Take with that of the model.
func checkPlainTake(t *testing.T, w *intern.Table, p *plain, b []byte, at int, was []api.Header) ([]api.Header, int, api.Errno) {
	t.Helper()
	bytesBefore, wasBefore := whole(b), whole(was)
	want, wantNext, wantE := plainTake(b, at, p, was)
	list, next, e := Take(b, at, w, was)
	if !slices.Equal(list, want) || next != wantNext || e != wantE || w.Len() != len(p.list) {
		t.Fatalf("Take(%s, %d) relative to %s = %s, %d, %d, want %s, %d, %d", show(b), at, show(was), show(list), next, e, show(want), wantNext, wantE)
	}
	if !slices.Equal(whole(b), bytesBefore) || !slices.Equal(whole(was), wasBefore) {
		t.Fatalf("Take(%s, %d) relative to %s changed its arguments", show(bytesBefore), at, show(wasBefore))
	}
	return list, next, e
}
