package head

import (
	"fmt"
	"math/rand"
	"regexp"
	"slices"
	"strings"
	"testing"

	"pursuivant/api"
)

const (
	letters    = "abcdefghijklmnopqrstuvwxyzABCDEFGHIJKLMNOPQRSTUVWXYZ"
	tokenBytes = letters + "0123456789!#$%&'*+-.^_`|~"
)

var (
	nameForm  = regexp.MustCompile("\\A[a-zA-Z0-9!#$%&'*+.^_`|~-]{1,64}\\z")
	valueForm = regexp.MustCompile(`\A([!-~]([\t -~]{0,510}[!-~])?)?\z`)
)

// plainLower looks up each letter in an alphabet.
func plainLower(s string) string {
	out := ""
	for i := range len(s) {
		place := strings.IndexByte(letters, s[i])
		if place < 0 {
			out += s[i : i+1]
		} else {
			out += letters[place%26 : place%26+1]
		}
	}
	return out
}

func plainMatch(a, b string) bool {
	return plainLower(a) == plainLower(b)
}

func plainGood(list []api.Header) bool {
	wrong := slices.ContainsFunc(list, func(h api.Header) bool {
		return !nameForm.MatchString(h.Name) || !valueForm.MatchString(h.Value)
	})
	return !wrong && len(list) < 25
}

// plainGet adds one value after the other to what it has.
func plainGet(list []api.Header, name string) (string, bool) {
	out, found := "", false
	for _, h := range list {
		if !plainMatch(h.Name, name) {
			continue
		}
		if found {
			out += ", "
		}
		out, found = out+h.Value, true
	}
	return out, found
}

// plainSet goes from the last header to the first, and moves h forward to each
// one that matches.
func plainSet(list []api.Header, h api.Header) []api.Header {
	out := []api.Header{h}
	for i := len(list) - 1; i >= 0; i-- {
		if plainMatch(list[i].Name, h.Name) {
			place := slices.Index(out, h)
			out = slices.Insert(slices.Delete(out, place, place+1), 0, h)
		} else {
			out = slices.Insert(out, 0, list[i])
		}
	}
	return out
}

// plainDrop removes one name after the other.
func plainDrop(list []api.Header, names ...string) []api.Header {
	out := slices.Clone(list)
	for _, name := range names {
		out = slices.DeleteFunc(out, func(h api.Header) bool { return plainMatch(h.Name, name) })
	}
	return out
}

// show writes out a value, as far as a line has room for it.
func show(v any) string {
	return fmt.Sprintf("%.500s", fmt.Sprintf("%q", v))
}

func checkName(t *testing.T, s string, want bool) {
	t.Helper()
	if got := Name(s); got != want {
		t.Errorf("Name(%.100q) of %d bytes = %v", s, len(s), got)
	}
}

func checkValue(t *testing.T, s string, want bool) {
	t.Helper()
	if got := Value(s); got != want {
		t.Errorf("Value(%.100q) of %d bytes = %v", s, len(s), got)
	}
}

// roomy returns list with other headers behind its length, and all of them.
func roomy(list []api.Header) (short, all []api.Header) {
	all = slices.Concat(list, []api.Header{{Name: "a", Value: "behind"}, {Name: "Behind", Value: "2"}, {Name: "b", Value: "behind"}})
	return all[:len(list)], all
}

// checkApart calls a function with a list that has headers behind its length,
// and checks that the list and what lies behind it stay as they were, then and
// after the result is changed, and that the result and the one of a second
// call stay as they were after the list is changed.
func checkApart(t *testing.T, list []api.Header, call func([]api.Header) []api.Header) []api.Header {
	t.Helper()
	short, all := roomy(list)
	before := slices.Clone(all)
	first, second := call(short), call(short)
	if !slices.Equal(all, before) {
		t.Errorf("of the list %s and what lies behind it, %s is left", show(before), show(all))
	}
	result := slices.Clone(first)
	if !slices.Equal(second, result) {
		t.Errorf("two calls return %s and %s", show(first), show(second))
	}
	spoil(first)
	if !slices.Equal(all, before) {
		t.Errorf("a change of the result changes the list %s to %s", show(before), show(all))
	}
	if !slices.Equal(second, result) {
		t.Errorf("a change of the first result changes the second one, %s, to %s", show(result), show(second))
	}
	spoil(all)
	if !slices.Equal(second, result) {
		t.Errorf("a change of the list changes the result %s to %s", show(result), show(second))
	}
	return result
}

// spoil overwrites a list and what lies behind it in its capacity.
func spoil(list []api.Header) {
	list = list[:cap(list)]
	for i := range list {
		list[i] = api.Header{Name: "changed", Value: "changed"}
	}
}

func checkGood(t *testing.T, list []api.Header, want bool) {
	t.Helper()
	short, all := roomy(list)
	before := slices.Clone(all)
	if got := Good(short); got != want {
		t.Errorf("Good(%s) of %d headers = %v", show(list), len(list), got)
	}
	if !slices.Equal(all, before) {
		t.Errorf("Good changed %s to %s", show(before), show(all))
	}
}

func checkGet(t *testing.T, list []api.Header, name, want string, found bool) {
	t.Helper()
	short, all := roomy(list)
	before := slices.Clone(all)
	if got, ok := Get(short, name); got != want || ok != found {
		t.Errorf("Get(%s, %.100q) = %.300q, %v, want %.300q, %v", show(list), name, got, ok, want, found)
	}
	if !slices.Equal(all, before) {
		t.Errorf("Get changed %s to %s", show(before), show(all))
	}
}

func checkSet(t *testing.T, list []api.Header, h api.Header, want []api.Header) {
	t.Helper()
	got := checkApart(t, list, func(list []api.Header) []api.Header { return Set(list, h) })
	if !slices.Equal(got, want) {
		t.Errorf("Set(%s, %s) = %s, want %s", show(list), show(h), show(got), show(want))
	}
}

func checkDrop(t *testing.T, list []api.Header, names []string, want []api.Header) {
	t.Helper()
	all := slices.Concat(names, []string{"Behind", "B", "a"})
	before := slices.Clone(all)
	got := checkApart(t, list, func(list []api.Header) []api.Header { return Drop(list, all[:len(names)]...) })
	if !slices.Equal(got, want) {
		t.Errorf("Drop(%s, %s) = %s, want %s", show(list), show(names), show(got), show(want))
	}
	if !slices.Equal(all, before) {
		t.Errorf("of the names %s and what lies behind them, %s is left", show(before), show(all))
	}
}

// checkPlain compares all functions of lists with the plain ones.
func checkPlain(t *testing.T, list []api.Header, h api.Header, names ...string) {
	t.Helper()
	checkGood(t, list, plainGood(list))
	want, found := plainGet(list, h.Name)
	checkGet(t, list, h.Name, want, found)
	checkSet(t, list, h, plainSet(list, h))
	checkDrop(t, list, names, plainDrop(list, names...))
}

// lines returns the headers that are written as name: value.
func lines(texts ...string) []api.Header {
	var out []api.Header
	for _, text := range texts {
		name, value, _ := strings.Cut(text, ": ")
		out = append(out, api.Header{Name: name, Value: value})
	}
	return out
}

// many returns valid headers, so many of them.
func many(number int) []api.Header {
	var out []api.Header
	for i := range number {
		out = append(out, api.Header{Name: fmt.Sprint("X-", i%10), Value: fmt.Sprint(i)})
	}
	return out
}

// withByte returns texts with a byte at the beginning, in the middle and at
// the end, beside other bytes.
func withByte(c int) []string {
	s := string([]byte{byte(c)})
	return []string{s + "a", "a" + s, "a" + s + "b", s + "ab", "ab" + s, "a" + s + s + "b", "A1-" + s + "-z9", s + s}
}

func TestNameKnown(t *testing.T) {
	for _, s := range []string{"a", "Z", "0", "~", "Accept", "Content-Type", "content-type", "X_y", "a.b", "42", "-", "--", "sec-", tokenBytes[:64], tokenBytes[64:]} {
		checkName(t, s, true)
	}
	for _, s := range []string{"", " ", "\t", "a b", "a:", ":a", "a: b", " a", "a ", "\ta", "a\t", "a\n", "a\r\n", "a,b", "a;b", "a=b", "a/b", "a@b", "(a)", "[a]", "{a}", "<a>", "\"a\"", "a\\b", "a?b", "a\x00", "\x00a", "a\x7F", "\u00E9", "\u212A", "\u017F", "a\xFF", "\xC3"} {
		checkName(t, s, false)
	}
}

func TestNameOfEveryByte(t *testing.T) {
	number := 0
	for c := range 256 {
		inToken := strings.IndexByte(tokenBytes, byte(c)) >= 0
		if inToken {
			number++
		}
		checkName(t, string([]byte{byte(c)}), inToken)
		for _, s := range withByte(c) {
			checkName(t, s, inToken)
		}
	}
	if number != 77 {
		t.Errorf("%d bytes may be in a name", number)
	}
}

func TestNameOfEveryLength(t *testing.T) {
	for length := range 300 {
		s := strings.Repeat("x", length)
		checkName(t, s, 1 <= length && length <= 64)
		for place := range length {
			checkName(t, s[:place]+":"+s[place+1:], false)
			checkName(t, s[:place]+"\xFF"+s[place+1:], false)
		}
	}
	for _, c := range tokenBytes {
		checkName(t, strings.Repeat(string(c), 63), true)
		checkName(t, strings.Repeat(string(c), 64), true)
		checkName(t, strings.Repeat(string(c), 65), false)
	}
	checkName(t, strings.Repeat("x", 1<<20), false)
	checkName(t, strings.Repeat("x", 1<<8), false)
	checkName(t, strings.Repeat("x", 1<<16+1), false)
}

func TestValueKnown(t *testing.T) {
	for _, s := range []string{"", "a", "~", "!", "a b", "a\tb", "a \t b", "x, y", ",", ":", "text/html; charset=\"utf-8\"", "http://a:8080/?b#c", "a\\b", "(){}[]<>@", "0", "*"} {
		checkValue(t, s, true)
	}
	for _, s := range []string{" ", "\t", "  ", " \t", "\t ", "\t\t", " a", "a ", "\ta", "a\t", " a ", "\ta\t", "a  ", "\t a b", "a\n", "\na", "a\nb", "a\r\nb", "a\x00b", "\x00", "\x7F", "a\x7F", "\x0B", "\x0C", "\u00A0", "\u00E9", "a\u2028b", "\x80", "a\xFF", "\xFFa", "a\x1Fb"} {
		checkValue(t, s, false)
	}
}

func TestValueOfEveryByte(t *testing.T) {
	number := 0
	for c := range 256 {
		s := string([]byte{byte(c)})
		within := c == 9 || 32 <= c && c <= 126
		outside := 33 <= c && c <= 126
		if within {
			number++
		}
		checkValue(t, s, outside)
		checkValue(t, "a"+s+"b", within)
		checkValue(t, "a"+s+s+"b", within)
		checkValue(t, "some,"+s+"more", within)
		checkValue(t, s+"b", outside)
		checkValue(t, "a"+s, outside)
		checkValue(t, s+s, outside)
		checkValue(t, s+"some more"+s, outside)
	}
	if number != 96 {
		t.Errorf("%d bytes may be in a value", number)
	}
}

func TestValueOfEveryLength(t *testing.T) {
	for length := range 1100 {
		s := strings.Repeat("x", length)
		checkValue(t, s, length <= 512)
		if length < 2 {
			continue
		}
		for _, space := range []string{" ", "\t"} {
			checkValue(t, space+s[1:], false)
			checkValue(t, s[1:]+space, false)
			checkValue(t, "a"+strings.Repeat(space, length-2)+"b", length <= 512)
			checkValue(t, strings.Repeat(space, length), false)
		}
	}
	for _, length := range []int{1, 2, 3, 511, 512} {
		s := strings.Repeat("x", length)
		for place := range length {
			checkValue(t, s[:place]+"\n"+s[place+1:], false)
			checkValue(t, s[:place]+"\xFF"+s[place+1:], false)
			checkValue(t, s[:place]+" "+s[place+1:], 0 < place && place < length-1)
			checkValue(t, s[:place]+"\t"+s[place+1:], 0 < place && place < length-1)
		}
	}
	// Without the whitespace around them, these would be short enough.
	checkValue(t, " "+strings.Repeat("x", 512), false)
	checkValue(t, strings.Repeat("x", 512)+"\t", false)
	checkValue(t, strings.Repeat("x", 1<<16), false)
	checkValue(t, strings.Repeat("x", 1<<20), false)
}

var (
	badNames  = []string{"", " ", "a b", "a:", ":a", "a\n", "\x00", "\u00E9", "\xFF", strings.Repeat("n", 65), strings.Repeat("n", 500)}
	badValues = []string{" ", "\t", " a", "a ", "\ta", "a\t", "a\nb", "\x00", "\x7F", "\u00E9", "\xFF", strings.Repeat("v", 513), strings.Repeat("v", 5000)}
)

func TestGoodOfEveryNumber(t *testing.T) {
	if !Good(nil) || !Good([]api.Header{}) || !Good(make([]api.Header, 0, 30)) {
		t.Error("a list without headers is not valid")
	}
	for number := range 300 {
		checkGood(t, many(number), number <= 24)
	}
	for _, number := range []int{23, 24, 25} {
		same := slices.Repeat(lines("a: 1"), number)
		checkGood(t, same, number < 25)
		longest := slices.Repeat([]api.Header{{Name: strings.Repeat("n", 64), Value: strings.Repeat("v", 512)}}, number)
		checkGood(t, longest, number < 25)
		empty := slices.Repeat([]api.Header{{Name: "a"}}, number)
		checkGood(t, empty, number < 25)
	}
}

// TestGoodOfOneWrong has lists in which a single header is not valid, at every
// place.
func TestGoodOfOneWrong(t *testing.T) {
	for number := 1; number <= 25; number++ {
		for place := range number {
			for _, name := range badNames {
				list := many(number)
				list[place].Name = name
				checkGood(t, list, false)
			}
			for _, value := range badValues {
				list := many(number)
				list[place].Value = value
				checkGood(t, list, false)
			}
			list := many(number)
			list[place] = api.Header{}
			checkGood(t, list, false)
			list[place] = api.Header{Name: strings.Repeat("n", 64), Value: strings.Repeat("v", 512)}
			checkGood(t, list, number < 25)
		}
	}
}

// TestGoodBehindTheEnd has headers that are not valid, but are not in the list.
func TestGoodBehindTheEnd(t *testing.T) {
	list := many(20)
	list[10] = api.Header{Name: "a b", Value: "\n"}
	for number := range 11 {
		if !Good(list[:number]) {
			t.Errorf("the first %d headers are not valid", number)
		}
	}
	if Good(list[:11]) || !Good(list[11:]) {
		t.Error("the header that is not valid is missed, or is not where it should be")
	}
}

func TestGetKnown(t *testing.T) {
	checkGet(t, lines("a: 1", "b: 2", "A: 3"), "a", "1, 3", true) // of the chapter
	checkGet(t, lines("a: 1", "b: 2", "A: 3"), "A", "1, 3", true)
	checkGet(t, lines("a: 1", "b: 2", "A: 3"), "B", "2", true)
	checkGet(t, lines("a: 1", "b: 2", "A: 3"), "c", "", false)

	list := lines("Accept: text/html", "X-One: 1", "ACCEPT: */*, a", "accept-language: de", "x-one: ", "aCCEPT: b\tc", "X-Empty: ", "Vary: *")
	for name, want := range map[string]string{
		"accept":          "text/html, */*, a, b\tc",
		"ACCEPT":          "text/html, */*, a, b\tc",
		"Accept":          "text/html, */*, a, b\tc",
		"acCEPt":          "text/html, */*, a, b\tc",
		"Accept-Language": "de",
		"x-one":           "1, ",
		"X-ONE":           "1, ",
		"x-empty":         "",
		"VARY":            "*",
	} {
		checkGet(t, list, name, want, true)
	}
	for _, name := range []string{"", " ", "accep", "accepts", "accept ", " accept", "accept:", "accept\x00", "accept,vary", "x_one", "x-", "one", "\u017Fx-one", "ac\u00E7ept", "*", "text/html", "1", "de"} {
		checkGet(t, list, name, "", false)
	}
}

func TestGetOfNothing(t *testing.T) {
	for _, name := range []string{"", "a", "A", "Accept", " ", ":", "\xFF", strings.Repeat("n", 1000)} {
		checkGet(t, nil, name, "", false)
		checkGet(t, []api.Header{}, name, "", false)
		if got, ok := Get(nil, name); got != "" || ok {
			t.Errorf("Get(nil, %.100q) = %q, %v", name, got, ok)
		}
	}
}

func TestGetOfEmptyValues(t *testing.T) {
	checkGet(t, lines("a: "), "A", "", true)
	checkGet(t, lines("a: ", "a: "), "A", ", ", true)
	checkGet(t, lines("a: ", "A: ", "a: "), "a", ", , ", true)
	checkGet(t, lines("a: ", "A: 1"), "a", ", 1", true)
	checkGet(t, lines("a: 1", "A: "), "a", "1, ", true)
	checkGet(t, lines("b: ", "a: 1", "b: 2"), "a", "1", true)
	checkGet(t, lines("b: ", "a: 1", "b: 2"), "b", ", 2", true)
	checkGet(t, lines("b: ", "b: "), "a", "", false)
}

// TestGetIsOfBytes has names that are no tokens, and values that are not
// valid, which are found as they are.
func TestGetIsOfBytes(t *testing.T) {
	for _, name := range []string{"", " ", "a b", "a:", "\x00", "\n", "\u00E9", "\xFF", "\xC3", strings.Repeat("n", 65), strings.Repeat("n", 5000)} {
		list := []api.Header{{Name: "x", Value: "0"}, {Name: name, Value: "1"}, {Name: name + "x", Value: "2"}, {Name: plainLower(name), Value: " \n\xFF"}}
		checkGet(t, list, name, "1,  \n\xFF", true)
		checkGet(t, list, name+"X", map[bool]string{false: "2", true: "0, 2"}[name == ""], true)
		checkGet(t, list, name+"y", "", false)
	}
	// None of these are letters, although they have an upper or lower case, or
	// differ from another by 32.
	for _, pair := range [][2]string{{"\u00E9", "\u00C9"}, {"k", "\u212A"}, {"s", "\u017F"}, {"@", "`"}, {"[", "{"}, {"\x01", "!"}, {"^", "~"}, {"_", "\x7F"}, {"\xC1", "\xE1"}, {"\xC1", "A"}, {"\xE1", "a"}, {"0", "\x10"}, {"-", "\r"}} {
		checkGet(t, []api.Header{{Name: pair[0], Value: "1"}}, pair[1], "", false)
		checkGet(t, []api.Header{{Name: pair[1], Value: "1"}}, pair[0], "", false)
	}
}

func TestMatchOfEveryByte(t *testing.T) {
	for a := range 256 {
		for b := range 256 {
			one, other := string([]byte{'x', byte(a), 'Y'}), string([]byte{'X', byte(b), 'y'})
			want := a == b || 'a' <= a && a <= 'z' && b == a-32 || 'A' <= a && a <= 'Z' && b == a+32
			list := []api.Header{{Name: one, Value: "1"}}
			if _, ok := Get(list, other); ok != want {
				t.Errorf("Get(%q) of %q: %v", one, other, ok)
			}
			if got := Drop(list, other); (len(got) == 0) != want {
				t.Errorf("Drop(%q) of %q leaves %d", one, other, len(got))
			}
			if got := Set(list, api.Header{Name: other}); (len(got) == 1) != want {
				t.Errorf("Set(%q) of %q has %d headers", one, other, len(got))
			}
		}
	}
}

func TestSetKnown(t *testing.T) {
	checkSet(t, nil, api.Header{Name: "a", Value: "1"}, lines("a: 1"))
	checkSet(t, []api.Header{}, api.Header{Name: "a", Value: "1"}, lines("a: 1"))
	checkSet(t, nil, api.Header{}, []api.Header{{}})
	if got := Set(nil, api.Header{Name: "a"}); !slices.Equal(got, lines("a: ")) {
		t.Errorf("Set of nil = %s", show(got))
	}
	for _, one := range []struct {
		list []api.Header
		line string
		want []api.Header
	}{
		{lines("b: 2", "c: 3"), "a: 1", lines("b: 2", "c: 3", "a: 1")},
		{lines("ab: 2", "ba: 3"), "a: 1", lines("ab: 2", "ba: 3", "a: 1")},
		{lines("a: 1"), "a: 1", lines("a: 1")},
		{lines("a: 1"), "A: 9", lines("A: 9")},
		{lines("A: 1", "b: 2", "c: 3"), "a: 9", lines("a: 9", "b: 2", "c: 3")},
		{lines("b: 2", "A: 1", "c: 3"), "a: 9", lines("b: 2", "a: 9", "c: 3")},
		{lines("b: 2", "c: 3", "A: 1"), "a: 9", lines("b: 2", "c: 3", "a: 9")},
		{lines("a: 1", "A: 2", "a: 3"), "A: ", lines("A: ")},
		{lines("a: 1", "A: 2", "b: 3"), "a: 9", lines("a: 9", "b: 3")},
		{lines("b: 3", "a: 1", "A: 2"), "a: 9", lines("b: 3", "a: 9")},
		{lines("Aa: 1", "b: 2", "aA: 3", "c: 4", "aa: 5", "b: 6"), "AA: 9", lines("AA: 9", "b: 2", "c: 4", "b: 6")},
		{lines("b: 2", "Aa: 1", "d: 7", "aA: 3", "c: 4", "b: 6", "aa: 5"), "AA: 9", lines("b: 2", "AA: 9", "d: 7", "c: 4", "b: 6")},
		{lines("B: 2", "b: 3", "C: 4"), "a: 1", lines("B: 2", "b: 3", "C: 4", "a: 1")},
		{lines("z: 1", "y: 2", "x: 3", "z: 4"), "Y: 5", lines("z: 1", "Y: 5", "x: 3", "z: 4")},
	} {
		checkSet(t, one.list, lines(one.line)[0], one.want)
	}
}

// TestSetEveryPlace has lists in which every choice of the headers match.
func TestSetEveryPlace(t *testing.T) {
	names := []string{"aa", "AA", "Aa", "aA"}
	for number := range 9 {
		for choice := range 1 << number {
			h := api.Header{Name: names[choice%4], Value: "new"}
			var list, want []api.Header
			placed := false
			for i := range number {
				other := api.Header{Name: []string{"a", "aaa", "B", "b"}[i%4], Value: fmt.Sprint(i)}
				if choice>>i&1 == 0 {
					list, want = append(list, other), append(want, other)
					continue
				}
				list = append(list, api.Header{Name: names[(choice+i)%4], Value: fmt.Sprint(i)})
				if !placed {
					want, placed = append(want, h), true
				}
			}
			if !placed {
				want = append(want, h)
			}
			checkSet(t, list, h, want)
			checkPlain(t, list, h, "b", "aA")
		}
	}
}

// TestSetOfFull has lists of as many headers as are valid, and more.
func TestSetOfFull(t *testing.T) {
	for _, number := range []int{23, 24, 25, 26, 100} {
		list := slices.Repeat(lines("b: 1"), number)
		checkSet(t, list, api.Header{Name: "a", Value: "1"}, append(slices.Clone(list), lines("a: 1")...))
		checkSet(t, list, api.Header{Name: "B", Value: "2"}, lines("B: 2"))
	}
}

// TestSetIsOfBytes has headers that are not valid, which are set as they are.
func TestSetIsOfBytes(t *testing.T) {
	for _, name := range badNames {
		for _, value := range badValues {
			h := api.Header{Name: name, Value: value}
			checkSet(t, lines("x: 1"), h, append(lines("x: 1"), h))
			checkSet(t, append(lines("x: 1"), api.Header{Name: name}, h), h, append(lines("x: 1"), h))
		}
	}
}

func TestDropKnown(t *testing.T) {
	list := lines("Aa: 1", "b: 2", "aA: 3", "C: 4", "d: 5", "aa: 6", "B: 7")
	for _, one := range []struct {
		names []string
		want  []api.Header
	}{
		{nil, list},
		{[]string{}, list},
		{[]string{""}, list},
		{[]string{"a"}, list},
		{[]string{"x", "y", "a", "aaa", "bb", "1"}, list},
		{[]string{"d"}, lines("Aa: 1", "b: 2", "aA: 3", "C: 4", "aa: 6", "B: 7")},
		{[]string{"D"}, lines("Aa: 1", "b: 2", "aA: 3", "C: 4", "aa: 6", "B: 7")},
		{[]string{"c"}, lines("Aa: 1", "b: 2", "aA: 3", "d: 5", "aa: 6", "B: 7")},
		{[]string{"AA"}, lines("b: 2", "C: 4", "d: 5", "B: 7")},
		{[]string{"b"}, lines("Aa: 1", "aA: 3", "C: 4", "d: 5", "aa: 6")},
		{[]string{"B", "aA"}, lines("C: 4", "d: 5")},
		{[]string{"aa", "b"}, lines("C: 4", "d: 5")},
		{[]string{"d", "x", "c"}, lines("Aa: 1", "b: 2", "aA: 3", "aa: 6", "B: 7")},
		{[]string{"c", "C", "c"}, lines("Aa: 1", "b: 2", "aA: 3", "d: 5", "aa: 6", "B: 7")},
		{[]string{"x", "AA", "D", "c"}, lines("b: 2", "B: 7")},
		{[]string{"aa", "b", "c", "d"}, nil},
		{[]string{"D", "C", "B", "AA", "X"}, nil},
		{[]string{"aa,b", "c d", " d", "d ", "d:"}, list},
	} {
		checkDrop(t, list, one.names, one.want)
	}
	checkDrop(t, lines("a: 1", "A: 2"), []string{"a"}, nil)
	if got := Drop(list, "aa", "B", "c"); !slices.Equal(got, lines("d: 5")) {
		t.Errorf("Drop of names one by one = %s", show(got))
	}
}

func TestDropOfNothing(t *testing.T) {
	for _, names := range [][]string{nil, {}, {""}, {"a"}, {"a", "b", "A"}, {"\xFF"}} {
		checkDrop(t, nil, names, nil)
		checkDrop(t, []api.Header{}, names, nil)
		if got := Drop(nil, names...); len(got) != 0 {
			t.Errorf("Drop(nil, %s) = %s", show(names), show(got))
		}
	}
	checkDrop(t, nil, badNames, nil)
	if got := Drop(nil); len(got) != 0 {
		t.Errorf("Drop(nil) = %s", show(got))
	}
}

// TestDropEveryChoice has every choice of the names, in either order and case.
func TestDropEveryChoice(t *testing.T) {
	all := []string{"a", "Bb", "c-C", "D.d", "e", "\xFF"}
	var list []api.Header
	for i := range 24 {
		list = append(list, api.Header{Name: all[(i*5+i/6)%6], Value: fmt.Sprint(i)})
	}
	for _, name := range []string{"A", "bB", "C-c", "d.D", "E", "\xFF"} {
		list = append(list, api.Header{Name: name, Value: "last"})
	}
	for choice := range 1 << len(all) {
		var names []string
		for i, name := range all {
			if choice>>i&1 == 1 {
				names = append(names, name)
			}
		}
		want := plainDrop(list, names...)
		checkDrop(t, list, names, want)
		slices.Reverse(names)
		checkDrop(t, list, names, want)
		for i := range names {
			names[i] = plainLower(names[i])
		}
		checkDrop(t, list, append(names, names...), want)
	}
	checkDrop(t, list, all, nil)
}

// TestDropIsOfBytes has names that are no tokens, which are dropped too.
func TestDropIsOfBytes(t *testing.T) {
	list := lines("x: 1")
	for _, name := range badNames {
		list = append(list, api.Header{Name: name, Value: " \n"})
	}
	list = append(list, lines("y: 2")...)
	checkDrop(t, list, badNames, lines("x: 1", "y: 2"))
	for i, name := range badNames {
		want := slices.Clone(list)
		checkDrop(t, list, []string{name}, slices.Delete(want, i+1, i+2))
	}
}

func TestDropOfMany(t *testing.T) {
	var names []string
	for i := range 1000 {
		names = append(names, fmt.Sprint("x-", i))
	}
	list := slices.Repeat(lines("X-0: 1", "X-999: 2", "X-1000: 3", "x-500: 4"), 250)
	checkDrop(t, list, names, slices.Repeat(lines("X-1000: 3"), 250))
}

// TestSetThenGet has results of functions as lists of others.
func TestSetThenGet(t *testing.T) {
	var list []api.Header
	for i, name := range []string{"a", "B", "A", "c", "b", "d"} {
		list = Set(list, api.Header{Name: name, Value: fmt.Sprint(i)})
		checkGet(t, list, name, fmt.Sprint(i), true)
	}
	if want := lines("A: 2", "b: 4", "c: 3", "d: 5"); !slices.Equal(list, want) {
		t.Errorf("the headers are %s, want %s", show(list), show(want))
	}
	// Two lists that grow from one must not write over each other.
	one := Set(list, api.Header{Name: "e", Value: "one"})
	two := Set(list, api.Header{Name: "f", Value: "two"})
	checkGet(t, one, "e", "one", true)
	checkGet(t, two, "f", "two", true)
	short := Drop(one, "a")
	checkSet(t, short, api.Header{Name: "g"}, lines("b: 4", "c: 3", "d: 5", "e: one", "g: "))
	checkGet(t, one, "a", "2", true)
}

// randomList returns headers of few names, most of them valid.
func randomList(r *rand.Rand, most int) []api.Header {
	names := []string{"a", "A", "b", "B", "ab", "Ab", "x-y", "X-Y", "c"}
	values := []string{"", "1", "2", "x y", "x, y", "~"}
	var out []api.Header
	for range r.Intn(most + 1) {
		h := api.Header{Name: names[r.Intn(len(names))], Value: values[r.Intn(len(values))]}
		switch r.Intn(100) {
		case 0:
			h.Name = badNames[r.Intn(len(badNames))]
		case 1:
			h.Value = badValues[r.Intn(len(badValues))]
		}
		out = append(out, h)
	}
	return out
}

func TestRandom(t *testing.T) {
	r := rand.New(rand.NewSource(10))
	good := map[bool]int{}
	for range 30000 {
		list := randomList(r, 30)
		var names []string
		for _, h := range randomList(r, 4) {
			names = append(names, h.Name)
		}
		h := api.Header{Name: "a", Value: "new"}
		if others := randomList(r, 1); len(others) == 1 {
			h = others[0]
		}
		checkPlain(t, list, h, names...)
		good[plainGood(list)]++
	}
	if good[true] < 5000 || good[false] < 5000 {
		t.Errorf("of the results %v of Good, one is hardly tested", good)
	}
}

func TestNothingIsKept(t *testing.T) {
	for range 3 {
		checkName(t, "a", true)
		checkName(t, "a:", false)
		checkValue(t, "a b", true)
		checkValue(t, "a ", false)
		checkPlain(t, lines("a: 1", "b: 2", "A: 3"), api.Header{Name: "A", Value: "4"}, "B")
		checkPlain(t, nil, api.Header{Name: "b"}, "a")
		checkPlain(t, lines("b: 2", "a:: 1"), api.Header{Name: "c"}, "d")
	}
}

// FuzzHead takes its list from the lines of a text.
func FuzzHead(f *testing.F) {
	f.Add("a: 1\nb: 2\nA: 3", "a", "9", "B")
	f.Add("", "", "", "")
	f.Add("x-y:  1\n\xFF: a\tb\nX-Y: ", "X-y", " ", "\xFF")
	f.Fuzz(func(t *testing.T, text, name, value, other string) {
		checkName(t, name, nameForm.MatchString(name))
		checkValue(t, value, valueForm.MatchString(value))
		list := lines(strings.Split(text, "\n")...)
		checkPlain(t, list, api.Header{Name: name, Value: value}, other, name)
		checkPlain(t, list, api.Header{Name: other, Value: value}, other)
		checkPlain(t, list, list[len(list)-1])
	})
}
