package delta

import (
	"bytes"
	"fmt"
	"slices"
	"testing"

	"pursuivant/api"
	"pursuivant/intern"
)

func TestNumbers(t *testing.T) {
	if api.MaxSent != 25 || api.OK != 0 || api.ErrArg != 1 || api.ErrOver != 2 || api.ErrForm != 4 || api.ErrNone != 5 || api.ErrShort != 7 {
		t.Error(api.MaxSent, api.OK, api.ErrArg, api.ErrOver, api.ErrForm, api.ErrNone, api.ErrShort)
	}
}

func TestExample(t *testing.T) {
	was := []api.Header{{Name: "a", Value: "1"}, {Name: "b", Value: "2"}, {Name: "c", Value: "3"}}
	list := []api.Header{{Name: "a", Value: "1"}, {Name: "x", Value: "4"}, {Name: "c", Value: "3"}}
	b := []byte{1, 1, 1, 0, 1, 'x', 0, 1, '4'}
	checkPut(t, intern.New(), nil, was, list, b)
	checkTake(t, intern.New(), b, 0, was, list, len(b))
}

// The encodings of headers of letters with a new Table.
const (
	newA = "\x00\x01a\x00\x02aa"
	newB = "\x00\x01b\x00\x02bb"
	newC = "\x00\x01c\x00\x02cc"
	newX = "\x00\x01x\x00\x02xx"
	newY = "\x00\x01y\x00\x02yy"
)

// pairs holds previous lists, lists, and the encodings with a new Table of the
// ones relative to the others.
var pairs = []struct{ was, list, want string }{
	{"", "", "\x00\x00\x00"}, {"a", "a", "\x01\x00\x00"}, {"ab", "ab", "\x02\x00\x00"}, {"abc", "abc", "\x03\x00\x00"}, {"aba", "aba", "\x03\x00\x00"}, {"aaaa", "aaaa", "\x04\x00\x00"},
	// One is empty.
	{"", "a", "\x00\x00\x01" + newA}, {"", "ab", "\x00\x00\x02" + newA + newB}, {"", "aa", "\x00\x00\x02" + newA + "\x01\x02"}, {"a", "", "\x00\x00\x00"}, {"ab", "", "\x00\x00\x00"}, {"aaa", "", "\x00\x00\x00"},
	// One header more.
	{"abc", "xabc", "\x00\x03\x01" + newX}, {"abc", "axbc", "\x01\x02\x01" + newX}, {"abc", "abxc", "\x02\x01\x01" + newX}, {"abc", "abcx", "\x03\x00\x01" + newX}, {"a", "xa", "\x00\x01\x01" + newX}, {"a", "ax", "\x01\x00\x01" + newX},
	// One header fewer.
	{"abc", "bc", "\x00\x02\x00"}, {"abc", "ac", "\x01\x01\x00"}, {"abc", "ab", "\x02\x00\x00"}, {"ab", "b", "\x00\x01\x00"}, {"ab", "a", "\x01\x00\x00"},
	// Two more or fewer.
	{"abc", "xyabc", "\x00\x03\x02" + newX + newY}, {"abc", "axybc", "\x01\x02\x02" + newX + newY}, {"abc", "xabcy", "\x00\x00\x05" + newX + newA + newB + newC + newY}, {"abcd", "ad", "\x01\x01\x00"}, {"abcd", "bc", "\x00\x00\x02" + newB + newC}, {"abcd", "cd", "\x00\x02\x00"}, {"abcd", "ab", "\x02\x00\x00"},
	// Another one, or others.
	{"abc", "xbc", "\x00\x02\x01" + newX}, {"abc", "axc", "\x01\x01\x01" + newX}, {"abc", "abx", "\x02\x00\x01" + newX}, {"a", "x", "\x00\x00\x01" + newX}, {"abc", "xyc", "\x00\x01\x02" + newX + newY}, {"abcd", "axyd", "\x01\x01\x02" + newX + newY}, {"abc", "ax", "\x01\x00\x01" + newX}, {"abc", "xc", "\x00\x01\x01" + newX}, {"abcd", "axd", "\x01\x01\x01" + newX}, {"abc", "axyc", "\x01\x01\x02" + newX + newY}, {"abc", "xby", "\x00\x00\x03" + newX + newB + newY}, {"abc", "x", "\x00\x00\x01" + newX},
	// The same ones in another order.
	{"ab", "ba", "\x00\x00\x02" + newB + newA}, {"abc", "acb", "\x01\x00\x02" + newC + newB}, {"abc", "bac", "\x00\x01\x02" + newB + newA}, {"abc", "cba", "\x00\x00\x03" + newC + newB + newA}, {"abc", "bca", "\x00\x00\x03" + newB + newC + newA}, {"abc", "cab", "\x00\x00\x03" + newC + newA + newB},
	// Repeated ones: what belongs to the prefix does not belong to the suffix.
	{"a", "aa", "\x01\x00\x01" + newA}, {"aa", "a", "\x01\x00\x00"}, {"aa", "aaa", "\x02\x00\x01" + newA}, {"aaa", "aa", "\x02\x00\x00"}, {"aaa", "aaaaa", "\x03\x00\x02" + newA + "\x01\x02"}, {"aaaaa", "aaa", "\x03\x00\x00"}, {"aaaaa", "a", "\x01\x00\x00"},
	{"aba", "a", "\x01\x00\x00"}, {"a", "aba", "\x01\x00\x02" + newB + newA}, {"aba", "ababa", "\x03\x00\x02" + newB + newA}, {"ababa", "aba", "\x03\x00\x00"}, {"aba", "aa", "\x01\x01\x00"}, {"aa", "aba", "\x01\x01\x01" + newB}, {"aab", "ab", "\x01\x01\x00"}, {"ab", "aab", "\x01\x01\x01" + newA}, {"abb", "ab", "\x02\x00\x00"}, {"ab", "abb", "\x02\x00\x01" + newB}, {"aaba", "aba", "\x01\x02\x00"}, {"aba", "aaba", "\x01\x02\x01" + newA}, {"abab", "ab", "\x02\x00\x00"}, {"ab", "abab", "\x02\x00\x02" + newA + newB}, {"abcab", "ab", "\x02\x00\x00"}, {"ab", "abcab", "\x02\x00\x03" + newC + newA + newB}, {"abab", "abaab", "\x03\x01\x01" + newA}, {"abaab", "abab", "\x03\x01\x00"}, {"aabaa", "aaa", "\x02\x01\x00"}, {"aaa", "aabaa", "\x02\x01\x02" + newB + newA}, {"aabaa", "aaaa", "\x02\x02\x00"}, {"aaaa", "aabaa", "\x02\x02\x01" + newB}, {"aabb", "abab", "\x01\x01\x02" + newB + newA},
}

func TestPairs(t *testing.T) {
	for _, p := range pairs {
		checkPut(t, intern.New(), nil, letters(p.was), letters(p.list), []byte(p.want))
		checkPut(t, intern.New(), spare([]byte{5}), roomy(letters(p.was)), roomy(letters(p.list)), []byte(p.want))
		checkTake(t, intern.New(), []byte(p.want), 0, letters(p.was), letters(p.list), len(p.want))
	}
}

// TestNilAndEmpty has lists and bytes without anything, in all ways.
func TestNilAndEmpty(t *testing.T) {
	empty := [][]api.Header{nil, {}, make([]api.Header, 0, 5), roomy(nil)}
	for _, was := range empty {
		for _, list := range empty {
			for _, ahead := range [][]byte{nil, {}, spare(nil)} {
				checkPut(t, intern.New(), ahead, was, list, []byte{0, 0, 0})
				checkPut(t, intern.New(), ahead, letters("ab"), list, []byte{0, 0, 0})
				checkPut(t, intern.New(), ahead, was, letters("ab"), []byte("\x00\x00\x02"+newA+newB))
			}
		}
		checkTake(t, intern.New(), []byte{0, 0, 0}, 0, was, nil, 3)
		checkTake(t, intern.New(), []byte("\x00\x00\x01"+newA), 0, was, letters("a"), 10)
	}
}

// TestHeadersApart has headers that are easily taken for each other.
func TestHeadersApart(t *testing.T) {
	base := api.Header{Name: "Ab", Value: "cD"}
	others := []api.Header{
		{Name: "Ab", Value: "cd"}, {Name: "Ab", Value: "CD"}, {Name: "Ab", Value: "cE"}, {Name: "Ab", Value: ""}, {Name: "Ab", Value: "cD "}, {Name: "Ab", Value: " cD"}, {Name: "Ab", Value: "c"}, {Name: "Ab", Value: "cDc"}, {Name: "Ab", Value: "cD\x00"},
		{Name: "ab", Value: "cD"}, {Name: "AB", Value: "cD"}, {Name: "Ac", Value: "cD"}, {Name: "", Value: "cD"}, {Name: "Ab ", Value: "cD"}, {Name: " Ab", Value: "cD"}, {Name: "A", Value: "cD"}, {Name: "Aba", Value: "cD"}, {Name: "Ab\x00", Value: "cD"},
		{Name: "cD", Value: "Ab"}, {Name: "A", Value: "bcD"}, {Name: "Abc", Value: "D"}, {Name: "", Value: "AbcD"}, {Name: "AbcD", Value: ""}, {}, {Name: "ab", Value: "cd"},
	}
	first, last := letters("f")[0], letters("l")[0]
	for _, h := range others {
		for _, pair := range [][2]api.Header{{base, h}, {h, base}} {
			p := &plain{}
			want := slices.Concat([]byte{1, 1, 1}, p.put(pair[1].Name), p.put(pair[1].Value))
			was, list := []api.Header{first, pair[0], last}, []api.Header{first, pair[1], last}
			checkPut(t, intern.New(), nil, was, list, want)
			checkTake(t, intern.New(), want, 0, was, list, len(want))
			want = slices.Concat([]byte{0, 0, 1}, want[3:])
			checkPut(t, intern.New(), nil, was[1:2], list[1:2], want)
			checkTake(t, intern.New(), want, 0, was[1:2], list[1:2], len(want))
			checkPut(t, intern.New(), nil, was, was, []byte{3, 0, 0})
		}
	}
}

// TestEqualInOtherMemory has strings that are equal but not the same.
func TestEqualInOtherMemory(t *testing.T) {
	other := letters("abc")
	for i, h := range other {
		other[i] = api.Header{Name: string([]byte(h.Name)), Value: string([]byte(h.Value))}
	}
	checkPut(t, intern.New(), nil, letters("abc"), other, []byte{3, 0, 0})
	checkPut(t, intern.New(), nil, letters("xbc"), other, []byte("\x00\x02\x01"+newA))
}

func TestPutFollowsBytes(t *testing.T) {
	for _, ahead := range [][]byte{nil, {}, {0}, {1}, {128}, {255, 255}, {0, 0, 0}, []byte(every()), []byte(long(5000))} {
		for _, p := range pairs {
			checkPut(t, intern.New(), ahead, letters(p.was), letters(p.list), []byte(p.want))
		}
	}
}

func TestPutLeavesSpareCapacity(t *testing.T) {
	for size := range 9 {
		for _, p := range pairs {
			checkPut(t, intern.New(), spare([]byte(every()[:size])), roomy(letters(p.was)), roomy(letters(p.list)), []byte(p.want))
		}
		checkPut(t, intern.New(), spare([]byte(every()[:size])), many(4), many(size*10), plainPut(nil, &plain{}, many(4), many(size*10)))
	}
}

// TestPutSharesNothing changes all of what Put returned, and checks what it
// returned before, what it was given, and what it returns afterwards.
func TestPutSharesNothing(t *testing.T) {
	for _, size := range []int{0, 1, 7, 8, 60, 500} {
		ahead := spare([]byte(long(size)))
		before := whole(ahead)
		for _, p := range pairs {
			first := Put(ahead, intern.New(), letters(p.was), letters(p.list))
			second := Put(ahead, intern.New(), letters(p.was), letters(p.list))
			fill(first)
			third := Put(ahead, intern.New(), letters(p.was), letters(p.list))
			want := slices.Concat(before[:size], []byte(p.want))
			if !bytes.Equal(second, want) || !bytes.Equal(third, want) || !bytes.Equal(whole(ahead), before) {
				t.Fatalf("a change of the first result changed another one or the argument: %v, %v, %v", second, third, ahead)
			}
		}
	}
}

// TestPutResultIsSteady changes what Put was given.
func TestPutResultIsSteady(t *testing.T) {
	w := intern.New()
	ahead, was, list := spare([]byte{1, 2, 3}), roomy(letters("abc")), roomy(letters("axc"))
	first := Put(ahead, w, was, list)
	second := Put(ahead, w, was, list)
	fill(ahead)
	fillHeaders(was)
	fillHeaders(list)
	if !bytes.Equal(first, []byte("\x01\x02\x03\x01\x01\x01"+newX)) || !bytes.Equal(second, []byte{1, 2, 3, 1, 1, 1, 1, 2}) {
		t.Error(first, second)
	}
	checkStrings(t, w, "x", "xx")
}

// TestPutOneList has lists that are parts of one.
func TestPutOneList(t *testing.T) {
	list := roomy(letters("abaab"))
	for i := range len(list) + 1 {
		for j := i; j <= len(list); j++ {
			for k := range len(list) + 1 {
				for l := k; l <= len(list); l++ {
					w, p := intern.New(), &plain{}
					checkPut(t, w, []byte{9}, list[i:j], list[k:l], plainPut(nil, p, slices.Clone(list[i:j]), slices.Clone(list[k:l])))
					checkStrings(t, w, p.list...)
				}
			}
		}
	}
}

// TestPutLong has lists that Take does not take, too, and numbers of two bytes.
func TestPutLong(t *testing.T) {
	for _, count := range []int{24, 25, 26, 27, 100, 126, 127, 128, 129, 255, 256, 300, 1000} {
		n, list := number(uint64(count)), many(count)
		var all []byte
		var texts []string
		for _, h := range list {
			all = slices.Concat(all, written(h.Name), written(h.Value))
			texts = append(texts, h.Name, h.Value)
		}
		w := intern.New()
		checkPut(t, w, []byte{1}, list, list, slices.Concat(n, []byte{0, 0}))
		checkPut(t, w, []byte{1}, list, nil, []byte{0, 0, 0})
		checkPut(t, w, []byte{1}, append(many(count), letters("x")...), list, slices.Concat(n, []byte{0, 0}))
		checkPut(t, w, []byte{1}, append(letters("x"), list...), list, slices.Concat([]byte{0}, n, []byte{0}))
		checkStrings(t, w)
		w = intern.New()
		checkPut(t, w, []byte{1}, nil, list, slices.Concat([]byte{0, 0}, n, all))
		checkStrings(t, w, texts...)
		w = intern.New()
		checkPut(t, w, []byte{1}, letters("xy"), slices.Concat(letters("x"), list, letters("y")), slices.Concat([]byte{1, 1}, n, all))
		checkStrings(t, w, texts...)
		w = intern.New()
		checkPut(t, w, []byte{1}, list, append(letters("x"), list...), slices.Concat([]byte{0}, n, []byte{1}, []byte(newX)))
		checkPut(t, w, []byte{1}, list, append(many(count), letters("x")...), slices.Concat(n, []byte{0, 1, 1, 2}))
		checkStrings(t, w, "x", "xx")
		w = intern.New()
		checkPut(t, w, nil, same(count), same(count+2), slices.Concat(n, []byte{0, 2}, []byte(newA), []byte{1, 2}))
		checkPut(t, w, nil, same(count+2), same(count), slices.Concat(n, []byte{0, 0}))
		checkStrings(t, w, "a", "aa")
	}
}

// TestPutStrings has strings that the Table has already, and that occur again.
func TestPutStrings(t *testing.T) {
	w := intern.New()
	twice := []api.Header{{Name: "k", Value: "k"}}
	checkPut(t, w, nil, nil, twice, []byte("\x00\x00\x01\x00\x01k\x01"))
	checkPut(t, w, nil, nil, twice, []byte{0, 0, 1, 1, 1})
	checkPut(t, w, nil, twice, twice, []byte{1, 0, 0})
	list := []api.Header{{Name: "u", Value: "k"}, {Name: "k", Value: "v"}, {Name: "v", Value: "u"}, {Name: "", Value: "w"}, {Name: "w", Value: ""}, {}}
	checkPut(t, w, nil, twice, list, []byte("\x00\x00\x06\x00\x01u\x01\x01\x00\x01v\x03\x02\x00\x00\x00\x01w\x05\x04\x04\x04"))
	checkPut(t, w, nil, list, []api.Header{list[0], {Name: "w", Value: "z"}, list[5]}, []byte("\x01\x01\x01\x05\x00\x01z"))
	checkStrings(t, w, "k", "u", "v", "", "w", "z")

	for _, build := range []func(...string) *intern.Table{made, read} {
		w = build("p", "aa", "b", "q")
		checkPut(t, w, []byte{7}, letters("xy"), letters("xaby"), []byte("\x01\x01\x02\x00\x01a\x02\x03\x00\x02bb"))
		checkPut(t, w, []byte{7}, letters("ab"), letters("cab"), []byte("\x00\x02\x01"+newC))
		checkPut(t, w, []byte{7}, letters("cab"), letters("ab"), []byte{0, 2, 0})
		checkPut(t, w, []byte{7}, nil, letters("cab"), []byte{0, 0, 3, 7, 8, 5, 2, 3, 6})
		checkStrings(t, w, "p", "aa", "b", "q", "a", "bb", "c", "cc")
	}
	checkPut(t, &intern.Table{}, nil, nil, letters("a"), []byte("\x00\x00\x01"+newA))
}

// TestPutKeptStrings has headers of the previous list, whose strings are not
// written and not added, whether or not the Table has them.
func TestPutKeptStrings(t *testing.T) {
	w := intern.New()
	checkPut(t, w, nil, letters("abc"), letters("abc"), []byte{3, 0, 0})
	checkPut(t, w, nil, letters("abc"), letters("ac"), []byte{1, 1, 0})
	checkStrings(t, w)
	w = made("b", "zz")
	checkPut(t, w, nil, letters("abc"), letters("xabc"), []byte("\x00\x03\x01"+newX))
	checkPut(t, w, nil, letters("abc"), nil, []byte{0, 0, 0})
	checkStrings(t, w, "b", "zz", "x", "xx")
}

// TestPutNumbersOfStrings has a Table with so many strings that their numbers
// have two bytes.
func TestPutNumbersOfStrings(t *testing.T) {
	var texts []string
	for i := range 300 {
		texts = append(texts, fmt.Sprint(i))
	}
	list := []api.Header{{Name: "126", Value: "127"}, {Name: "299", Value: "0"}, {Name: "300", Value: "300"}}
	w := made(texts...)
	checkPut(t, w, nil, nil, list, []byte("\x00\x00\x03\x7F\x80\x01\xAC\x02\x01\x00\x03300\xAD\x02"))
	checkStrings(t, w, append(texts, "300")...)
}

// TestPutAnyStrings has headers that are no valid ones.
func TestPutAnyStrings(t *testing.T) {
	for _, s := range []string{"", "\x00", every(), "\u00E9", "\xFF", long(127), long(128), long(2048), long(2049), long(20000)} {
		w := intern.New()
		checkPut(t, w, []byte{1}, letters("xy"), []api.Header{letters("x")[0], {Name: s, Value: s + "v"}, letters("y")[0]}, slices.Concat([]byte{1, 1, 1}, written(s), written(s+"v")))
		checkPut(t, w, []byte{1}, nil, []api.Header{{Name: "n", Value: s}, {Name: s, Value: "n"}}, []byte("\x00\x00\x02\x00\x01n\x01\x01\x03"))
		checkStrings(t, w, s, s+"v", "n")
	}
}

// short returns all lists of at most so many of the letters.
func short(letters string, most int) []string {
	out := []string{""}
	for from := 0; most > 0; most-- {
		to := len(out)
		for _, s := range out[from:to] {
			for _, c := range letters {
				out = append(out, s+string(c))
			}
		}
		from = to
	}
	return out
}

// TestAllShortPairs has all pairs of short lists.
func TestAllShortPairs(t *testing.T) {
	for _, all := range [][]string{short("ab", 5), short("abc", 3)} {
		for _, was := range all {
			for _, list := range all {
				w, p := intern.New(), &plain{}
				want := plainPut(nil, p, letters(was), letters(list))
				checkPut(t, w, nil, letters(was), letters(list), want)
				checkStrings(t, w, p.list...)
				checkTake(t, intern.New(), want, 0, letters(was), letters(list), len(want))
			}
		}
	}
}
