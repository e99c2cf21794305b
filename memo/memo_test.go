package memo

import (
	"fmt"
	"math"
	"math/rand"
	"slices"
	"strings"
	"testing"

	"pursuivant/api"
)

const (
	here  = "https://a.example:8443"
	there = "http://b.example/c?d"
)

// instants holds extreme times and such with the lowest bits of others.
var instants = []int{
	math.MinInt, math.MinInt + 1, -1<<32 - 1, -1 << 32, -1<<31 - 1, -1 << 31, -256, -2, -1, 0, 1, 2, 5, 255, 256, 86400,
	1<<31 - 1, 1 << 31, 1<<32 - 1, 1 << 32, 1<<32 + 1, 1 << 40, math.MaxInt - 1, math.MaxInt,
}

// odd holds texts that are easily taken for others.
var odd = []string{"", "a", "A", "b", "aa", " a", "a ", "a\x00", "\x00", "*", "**", "null", "\u00E9", "\xFF", "a,b", "a\nb", "\u017F"}

// method returns an entry for a method alone.
func method(name string, until int) api.Asked {
	return api.Asked{From: here, URL: there, Method: name, Until: until}
}

// header returns an entry for a header alone.
func header(name string, until int) api.Asked {
	return api.Asked{From: here, URL: there, Header: name, Until: until}
}

// withCred returns an entry for requests with credentials.
func withCred(x api.Asked) api.Asked {
	x.Cred = true
	return x
}

// until returns an entry that is like x, up to another time.
func until(x api.Asked, at int) api.Asked {
	x.Until = at
	return x
}

// to returns an entry that is like x, from an origin to a URL.
func to(x api.Asked, from, url string) api.Asked {
	x.From, x.URL = from, url
	return x
}

// numbered returns entries with different keys, for the times.
func numbered(times ...int) []api.Asked {
	var out []api.Asked
	for i, at := range times {
		out = append(out, method(fmt.Sprintf("M%d", i), at))
	}
	return out
}

// made returns what New returns.
func made(t *testing.T, most int) *Memo {
	t.Helper()
	m, e := New(most)
	if m == nil || e != api.OK {
		t.Fatalf("New(%d) = %v, %d", most, m, e)
	}
	checkList(t, m)
	return m
}

// filled returns a Memo that got the entries, which have different keys and
// are not too many.
func filled(t *testing.T, most int, list ...api.Asked) *Memo {
	t.Helper()
	m := made(t, most)
	for _, x := range list {
		m.Put(x, 0)
	}
	checkList(t, m, list...)
	return m
}

// show writes out entries, as far as a line has room for them.
func show(list ...api.Asked) string {
	var out strings.Builder
	fmt.Fprint(&out, len(list), " entries:")
	for _, x := range list {
		fmt.Fprintf(&out, " {%.40q %.40q %v %.40q %.40q %d}", x.From, x.URL, x.Cred, x.Method, x.Header, x.Until)
	}
	return fmt.Sprintf("%.600s", out.String())
}

// fill overwrites a list and what lies behind its length.
func fill(list []api.Asked) {
	list = list[:cap(list)]
	for i := range list {
		list[i] = api.Asked{From: "changed", URL: "changed", Cred: true, Method: "changed", Header: "changed", Until: math.MaxInt}
	}
}

// checkList checks what List returns, and that a change of it changes neither
// the Memo nor another result.
func checkList(t *testing.T, m *Memo, want ...api.Asked) {
	t.Helper()
	first, second := m.List(), m.List()
	if !slices.Equal(first, want) {
		t.Fatalf("List() = %s, want %s", show(first...), show(want...))
	}
	fill(first)
	if third := m.List(); !slices.Equal(second, want) || !slices.Equal(third, want) {
		t.Fatalf("a change of a result changed %s to %s, or to %s", show(want...), show(second...), show(third...))
	}
}

// checkPut checks what is there behind a call of Put.
func checkPut(t *testing.T, m *Memo, x api.Asked, now int, want ...api.Asked) {
	t.Helper()
	given := x
	m.Put(x, now)
	if x != given {
		t.Errorf("Put changed %s to %s", show(given), show(x))
	}
	checkList(t, m, want...)
}

// checkDrop checks what is there behind a call of Drop, and behind another one.
func checkDrop(t *testing.T, m *Memo, from, url string, want ...api.Asked) {
	t.Helper()
	m.Drop(from, url)
	checkList(t, m, want...)
	m.Drop(from, url)
	checkList(t, m, want...)
}

// checkHas checks what Has returns, twice, for any Until of x, and that no entry
// changes.
func checkHas(t *testing.T, m *Memo, x api.Asked, now int, want bool) {
	t.Helper()
	before := m.List()
	for _, at := range []int{x.Until, x.Until, 0, now, math.MinInt, math.MaxInt} {
		x.Until = at
		given := x
		if got := m.Has(x, now); got != want {
			t.Fatalf("Has(%s, %d) of %s = %v", show(x), now, show(before...), got)
		}
		if x != given {
			t.Errorf("Has changed %s to %s", show(given), show(x))
		}
	}
	checkList(t, m, before...)
}

func TestNumbers(t *testing.T) {
	if api.MaxMemo != 64 || api.OK != 0 || api.ErrArg != 1 {
		t.Error(api.MaxMemo, api.OK, api.ErrArg)
	}
}

func TestNewOfWrongNumbers(t *testing.T) {
	for _, most := range []int{
		0, -1, -2, -63, -64, -65, 65, 66, 100, 127, 128, 255, 256, 257, 1<<8 + 64, 1<<16 + 1, 1<<31 - 1, 1 << 31, 1<<32 + 1, 1<<32 + 64,
		-1<<8 + 1, -1<<16 + 1, -1 << 31, -1<<31 + 1, -1<<32 + 1, 1 << 62, 1<<62 + 64, math.MaxInt - 63, math.MaxInt, math.MinInt, math.MinInt + 1, math.MinInt + 64,
	} {
		for range 2 {
			if m, e := New(most); m != nil || e != api.ErrArg {
				t.Errorf("New(%d) = %v, %d", most, m, e)
			}
		}
	}
}

// TestNewOfAllNumbers has exactly as many entries as there is room for.
func TestNewOfAllNumbers(t *testing.T) {
	for most := 1; most <= 64; most++ {
		list := numbered(slices.Repeat([]int{9}, most+2)...)
		m := made(t, most)
		for i, x := range list {
			checkPut(t, m, x, 8, list[max(0, i+1-most):i+1]...)
		}
		// What another Memo has is not there.
		made(t, most)
	}
}

// TestExample has room for one entry.
func TestExample(t *testing.T) {
	m := made(t, 1)
	checkPut(t, m, method("PUT", 5), 0, method("PUT", 5))
	checkPut(t, m, method("DELETE", 5), 0, method("DELETE", 5))
	checkPut(t, m, header("x", 5), 5, header("x", 5))
	checkPut(t, m, header("x", 2), 5, header("x", 2))
	checkDrop(t, m, here, there)
	checkPut(t, m, header("x", 3), 5, header("x", 3))
}

// TestListBehindEachCall writes out what is there.
func TestListBehindEachCall(t *testing.T) {
	m := made(t, 3)
	a, b, c, d, e, f := method("PUT", 5), header("x", 7), withCred(header("x", 9)), to(header("y", 8), "null", there), method("*", 8), method("A", 9)
	checkPut(t, m, a, 0, a)
	checkHas(t, m, a, 0, true)
	checkPut(t, m, b, 0, a, b)
	checkHas(t, m, d, 0, false)
	checkPut(t, m, c, 0, a, b, c)
	checkHas(t, m, c, 9, false)
	checkPut(t, m, until(a, 1), 0, until(a, 1), b, c)
	checkPut(t, m, until(b, 2), 4, until(a, 1), until(b, 2), c)
	checkPut(t, m, d, 1, until(b, 2), c, d)
	checkPut(t, m, e, 1, c, d, e)
	checkDrop(t, m, here, "null", c, d, e)
	checkPut(t, m, until(d, 3), 5, c, until(d, 3), e)
	checkPut(t, m, f, 8, c, f)
	checkPut(t, m, b, 8, c, f, b)
	// The entry with credentials is live for longer.
	checkHas(t, m, b, 6, true)
	checkHas(t, m, b, 8, true)
	checkHas(t, m, b, 9, false)
	checkHas(t, m, withCred(b), 8, true)
	checkHas(t, m, withCred(b), 9, false)
	checkPut(t, m, d, 20, d)
	checkDrop(t, m, here, there, d)
	checkDrop(t, m, "null", there)
	checkDrop(t, m, "null", there)
	checkHas(t, m, d, 0, false)
	checkPut(t, m, a, 100, a)
}

// TestResultsStay keeps what List returned, which later calls do not change.
func TestResultsStay(t *testing.T) {
	m := made(t, 3)
	var got, want [][]api.Asked
	keep := func() {
		list := m.List()
		got, want = append(got, list), append(want, slices.Clone(list))
	}
	keep()
	for i, x := range slices.Concat(numbered(9, 9, 3, 9, 9, 9), numbered(9, 9, 7)) {
		m.Put(x, i)
		keep()
		m.Has(x, i)
		keep()
		m.Put(until(x, 8), i)
		keep()
		m.Put(to(x, "null", "null"), i)
		keep()
		m.Drop("null", "null")
		keep()
	}
	m.Drop(here, there)
	keep()
	m.Put(header("x", 1), 0)
	for i := range got {
		if !slices.Equal(got[i], want[i]) {
			t.Errorf("the result %s was changed to %s", show(want[i]...), show(got[i]...))
		}
	}
}

// places returns the first, the middle and the last one.
func places(number int) []int {
	return []int{0, number / 2, number - 1}
}

// TestPutOfTheSameKey has a new Until above, below and equal to the one before,
// with room for others and without, whether or not the entries are live.
func TestPutOfTheSameKey(t *testing.T) {
	for _, number := range []int{1, 2, 3, 5, 63, 64} {
		times := slices.Repeat([]int{5, 9, 7, 12}, 16)[:number]
		for _, most := range []int{number, min(number+1, 64), 64} {
			for _, i := range places(number) {
				for _, now := range []int{math.MinInt, 0, 4, 5, 6, 7, 8, 9, 11, 12, 13, math.MaxInt} {
					list := numbered(times...)
					m := filled(t, most, list...)
					for _, at := range []int{times[i], times[i] + 1, times[i] - 1, 0, -3, now, math.MaxInt, math.MinInt, times[i]} {
						list[i].Until = at
						checkPut(t, m, list[i], now, list...)
					}
				}
			}
		}
	}
}

// TestPutOfTheSameKeyTwice puts all entries again, in the other order.
func TestPutOfTheSameKeyTwice(t *testing.T) {
	for _, number := range []int{1, 2, 3, 63, 64} {
		list := numbered(slices.Repeat([]int{9}, number)...)
		m := filled(t, number, list...)
		for i := number - 1; i >= 0; i-- {
			list[i].Until = i
			checkPut(t, m, list[i], 100, list...)
		}
		// The first one is still the oldest.
		x := header("x", 9)
		checkPut(t, m, x, -1, append(list[1:], x)...)
	}
}

// variants returns entries with different keys, which differ from one of them
// in one field or in what belongs to which field.
func variants() []api.Asked {
	x := api.Asked{From: "http://a", URL: "http://b/", Method: "PUT", Header: "x"}
	out := []api.Asked{x, withCred(x), {}, {Cred: true}}
	for _, s := range odd {
		from, url, name, field := x, x, x, x
		from.From, url.URL, name.Method, field.Header = s, s, s, s
		out = append(out, from, url, name, field)
		if s != "" {
			out = append(out, api.Asked{From: s}, api.Asked{URL: s}, api.Asked{Method: s}, api.Asked{Header: s})
		}
	}
	for _, other := range []string{"HTTP://a", "http://A", "http://a/", "http://", "http://a:80"} {
		out = append(out, to(x, other, x.URL))
	}
	for _, other := range []string{"HTTP://b/", "http://B/", "http://b", "http://b//", "http://b/?", "http://b/#"} {
		out = append(out, to(x, x.From, other))
	}
	for _, other := range []string{"put", "Put", "PU", "PUTS", "GET"} {
		out = append(out, api.Asked{From: x.From, URL: x.URL, Method: other, Header: x.Header})
	}
	for _, other := range []string{"X", "x-", "authorization", "Authorization"} {
		out = append(out, api.Asked{From: x.From, URL: x.URL, Method: x.Method, Header: other})
	}
	return append(out,
		to(x, x.URL, x.From), to(x, "http://ahttp://b/", ""), to(x, "", "http://ahttp://b/"), to(x, "http://ah", "ttp://b/"),
		api.Asked{From: x.From, URL: x.URL, Method: x.Header, Header: x.Method},
		api.Asked{From: x.From, URL: x.URL, Method: "PUTx"}, api.Asked{From: x.From, URL: x.URL, Header: "PUTx"}, api.Asked{From: x.From, URL: x.URL, Method: "PU", Header: "Tx"},
	)
}

// TestKeys puts each two entries with different keys, each of them twice.
func TestKeys(t *testing.T) {
	list := variants()
	for i, a := range list {
		if slices.Contains(list[:i], a) {
			t.Fatalf("%s is there twice", show(a))
		}
		for _, b := range list[:i] {
			for _, cred := range []bool{false, true} {
				a := a
				a.Cred = cred
				if a == b {
					continue
				}
				m := made(t, 2)
				checkPut(t, m, until(a, 5), 0, until(a, 5))
				checkPut(t, m, until(b, 5), 0, until(a, 5), until(b, 5))
				checkPut(t, m, until(a, 3), 0, until(a, 3), until(b, 5))
				checkPut(t, m, until(b, -3), 0, until(a, 3), until(b, -3))
				checkPut(t, m, until(b, 7), 0, until(a, 3), until(b, 7))
				checkPut(t, m, a, 0, a, until(b, 7))
			}
		}
	}
}

// TestPutWithRoom has entries that are not live, which stay.
func TestPutWithRoom(t *testing.T) {
	for _, most := range []int{2, 3, 5, 64} {
		for number := range most {
			for _, now := range instants {
				times := make([]int, number)
				for i := range times {
					times[i] = []int{now, math.MinInt, min(now, now-1), math.MaxInt}[i%4]
				}
				list := numbered(times...)
				for _, at := range []int{now, math.MinInt, math.MaxInt} {
					x := header("x", at)
					checkPut(t, filled(t, most, list...), x, now, append(list, x)...)
				}
			}
		}
	}
}

// TestPutIntoFull has each set of entries that are not live.
func TestPutIntoFull(t *testing.T) {
	for most := 1; most <= 6; most++ {
		for set := range 1 << most {
			for _, now := range []int{-1 << 32, -5, -1, 0, 1, 5, 86400, 1 << 40, math.MaxInt - 1} {
				checkFull(t, most, now, func(i int) bool { return set>>i&1 == 1 })
			}
		}
	}
}

// TestPutIntoFullOfMany has many entries, some of them not live.
func TestPutIntoFullOfMany(t *testing.T) {
	for _, most := range []int{7, 16, 63, 64} {
		for _, now := range []int{0, -7, 7, 1 << 33} {
			checkFull(t, most, now, func(int) bool { return false })
			checkFull(t, most, now, func(int) bool { return true })
			checkFull(t, most, now, func(i int) bool { return i > 0 })
			checkFull(t, most, now, func(i int) bool { return i < most-1 })
			checkFull(t, most, now, func(i int) bool { return i < most/2 })
			checkFull(t, most, now, func(i int) bool { return i >= most/2 })
			for place := range most {
				checkFull(t, most, now, func(i int) bool { return i == place })
				checkFull(t, most, now, func(i int) bool { return i != place })
			}
			for step := 2; step < 9; step++ {
				for rest := range step {
					checkFull(t, most, now, func(i int) bool { return i%step == rest })
				}
			}
		}
	}
}

// checkFull puts an entry into a full Memo that has the entries that are over
// at now, and others; and then more, up to where the oldest goes.
func checkFull(t *testing.T, most, now int, over func(int) bool) {
	t.Helper()
	times := make([]int, most)
	for i := range times {
		times[i] = []int{now + 1, math.MaxInt}[i%2]
		if over(i) {
			times[i] = []int{now, now - 1, math.MinInt}[i%3]
		}
	}
	list := numbered(times...)
	m := filled(t, most, list...)
	var want []api.Asked
	for i, x := range list {
		if !over(i) {
			want = append(want, x)
		}
	}
	if len(want) == most {
		want = want[1:]
	}
	x := header("x", now+1)
	want = append(want, x)
	checkPut(t, m, x, now, want...)
	for i := 0; len(want) < most; i++ {
		// There is room: it is not asked whether others are live.
		x := header(fmt.Sprintf("x%d", i), now+1)
		want = append(want, x)
		checkPut(t, m, x, math.MaxInt, want...)
	}
	y := withCred(header("x", now+1))
	checkPut(t, m, y, now, append(slices.Clone(want[1:]), y)...)
}

// TestPutAtAllTimes has an entry that is live or not, at extreme times.
func TestPutAtAllTimes(t *testing.T) {
	for _, at := range instants {
		for _, now := range instants {
			for _, next := range []int{now, at, 0, math.MaxInt, math.MinInt} {
				x := header("x", next)
				checkPut(t, filled(t, 1, method("A", at)), x, now, x)
				// The first one is always live, but at the last instant.
				first, last := method("A", math.MaxInt), method("B", at)
				want := []api.Asked{last, x}
				switch {
				case now == math.MaxInt:
					want = want[1:]
				case at <= now:
					want = []api.Asked{first, x}
				}
				checkPut(t, filled(t, 2, first, last), x, now, want...)
			}
		}
	}
}

// TestPutOfWhatIsNotLive puts entries that are over from the start.
func TestPutOfWhatIsNotLive(t *testing.T) {
	m := made(t, 2)
	a, b, c, d := method("A", 0), method("B", -1), method("C", math.MinInt), method("D", 9)
	checkPut(t, m, a, 5, a)
	checkPut(t, m, b, 5, a, b)
	checkHas(t, m, a, 5, false)
	checkHas(t, m, b, 5, false)
	checkPut(t, m, c, 5, c)
	checkPut(t, m, d, 5, c, d)
	checkPut(t, m, a, 5, d, a)
	checkPut(t, m, b, 5, d, b)
	checkPut(t, m, c, 9, c)
}

// TestPutBackInTime has a time that is below the one before.
func TestPutBackInTime(t *testing.T) {
	m := made(t, 2)
	a, b, c, d := method("A", 5), method("B", 3), method("C", 4), method("D", 6)
	checkPut(t, m, a, 100, a)
	checkPut(t, m, b, 100, a, b)
	checkPut(t, m, c, 2, b, c)
	checkPut(t, m, a, 3, c, a)
	checkPut(t, m, d, -1, a, d)
	checkPut(t, m, b, 5, d, b)
	checkHas(t, m, d, 7, false)
	checkHas(t, m, d, 6, false)
	checkHas(t, m, d, 5, true)
}

// TestOldestIsTheFirst has entries whose Untils are in no order.
func TestOldestIsTheFirst(t *testing.T) {
	for _, times := range [][]int{{9, 8, 7}, {7, 8, 9}, {8, 7, 9}, {7, 9, 8}, {9, 7, 8}, {8, 9, 7}, {7, 7, 7}} {
		list := numbered(times...)
		m := filled(t, 3, list...)
		// To have been put again makes no entry newer.
		checkPut(t, m, list[0], 6, list...)
		x := header("x", 10)
		checkPut(t, m, x, 6, list[1], list[2], x)
		checkPut(t, m, list[0], 6, list[2], x, list[0])
	}
}

// TestDropPlaces has entries to drop at one place, at several and at all.
func TestDropPlaces(t *testing.T) {
	for number := range 7 {
		for set := range 1 << number {
			var list, want []api.Asked
			for i := range number {
				x := method(fmt.Sprintf("M%d", i), i)
				if set>>i&1 == 1 {
					x = to(x, "null", there+"e")
				} else {
					want = append(want, x)
				}
				list = append(list, x)
			}
			m := filled(t, max(number, 1), list...)
			checkDrop(t, m, "null", there, list...)
			checkDrop(t, m, here, there+"e", list...)
			checkDrop(t, m, "", "", list...)
			checkDrop(t, m, "null", there+"e", want...)
			checkDrop(t, m, "null", there, want...)
			checkDrop(t, m, here, there)
		}
	}
}

func TestDropOfMany(t *testing.T) {
	for _, most := range []int{63, 64} {
		list := numbered(slices.Repeat([]int{9}, most)...)
		for _, place := range append(places(most), 1, most-2) {
			list := slices.Clone(list)
			list[place].URL = "http://c/"
			m := filled(t, most, list...)
			checkDrop(t, m, here, "http://c", list...)
			checkDrop(t, m, here, "http://c/", slices.Delete(slices.Clone(list), place, place+1)...)
			m = filled(t, most, list...)
			checkDrop(t, m, here, there, list[place])
		}
		checkDrop(t, filled(t, most, list...), here, there)
	}
}

func TestDropOfEmpty(t *testing.T) {
	m := made(t, 2)
	checkDrop(t, m, here, there)
	checkDrop(t, m, "", "")
	checkDrop(t, filled(t, 2, method("PUT", 5)), "", "", method("PUT", 5))
	checkDrop(t, filled(t, 2, to(method("PUT", 5), "", "")), "", "")
}

// TestDropTakesAll has entries that the same From and URL suffice to drop.
func TestDropTakesAll(t *testing.T) {
	x := to(method("PUT", 5), "null", there)
	m := filled(t, 64, method("PUT", 5), withCred(method("PUT", 5)), header("x", 0), x, header("*", -5), withCred(header("", math.MaxInt)), method("", math.MinInt))
	checkDrop(t, m, here, there, x)
}

// TestDropNames drops, from two entries with different keys, those with the
// From and URL of one of them.
func TestDropNames(t *testing.T) {
	list := variants()
	for _, a := range list {
		for _, b := range list {
			if a == b {
				continue
			}
			var want []api.Asked
			if b.From != a.From || b.URL != a.URL {
				want = []api.Asked{b}
			}
			checkDrop(t, filled(t, 2, a, b), a.From, a.URL, want...)
			checkDrop(t, filled(t, 3, b, a), a.From, a.URL, want...)
		}
	}
}

// TestRoomBehindDrop puts entries where others were.
func TestRoomBehindDrop(t *testing.T) {
	for _, most := range []int{1, 2, 3, 64} {
		for dropped := 1; dropped <= most; dropped++ {
			list := numbered(slices.Repeat([]int{0}, most)...)
			for i := range dropped {
				list[i].From = "null"
			}
			m := filled(t, most, list...)
			checkDrop(t, m, "null", there, list[dropped:]...)
			want := slices.Clone(list[dropped:])
			for i := range dropped {
				// The others are not live, but there is room.
				x := to(list[i], "http://c", there)
				want = append(want, until(x, 6))
				checkPut(t, m, until(x, 6), 5, want...)
			}
			x := header("x", 5)
			if dropped == most {
				checkPut(t, m, x, 5, append(want[1:], x)...)
			} else {
				checkPut(t, m, x, 5, append(want[most-dropped:], x)...)
			}
		}
	}
}

// TestDroppedIsNew puts what was dropped, which is then the newest.
func TestDroppedIsNew(t *testing.T) {
	a, b, c := to(method("A", 9), "null", there), method("B", 9), method("C", 9)
	m := filled(t, 2, a, b)
	checkDrop(t, m, "null", there, b)
	checkHas(t, m, a, 0, false)
	checkPut(t, m, a, 0, b, a)
	checkPut(t, m, c, 0, a, c)
}

// checkAllows checks whether an entry satisfies x: alone, and with others that
// do not, in the first, a middle and the last place.
func checkAllows(t *testing.T, e, x api.Asked, want bool) {
	t.Helper()
	e.Until = 6
	checkHas(t, filled(t, 1, e), x, 5, want)
	checkHas(t, filled(t, 1, e), x, 6, false)
	checkHas(t, filled(t, 1, e), x, 7, false)
	others := []api.Asked{
		{From: x.From + "-", URL: x.URL, Cred: true, Method: x.Method, Header: x.Header, Until: 9},
		{From: x.From, URL: x.URL + "-", Cred: x.Cred, Method: x.Method, Header: x.Header, Until: 9},
		{From: x.From, URL: x.URL, Cred: true, Method: x.Method + "-", Header: x.Header, Until: 9},
		{From: x.From, URL: x.URL, Cred: x.Cred, Method: x.Method, Header: x.Header + "-", Until: 9},
	}
	for i := range len(others) + 1 {
		list := slices.Insert(slices.Clone(others), i, e)
		checkHas(t, filled(t, 64, list...), x, 5, want)
		checkHas(t, filled(t, 5, list...), x, 6, false)
	}
}

// checkCreds checks an entry and x without credentials and with them: both
// without, the entry with, and both with.
func checkCreds(t *testing.T, e, x api.Asked, none, entry, both bool) {
	t.Helper()
	checkAllows(t, e, x, none)
	checkAllows(t, withCred(e), x, entry)
	checkAllows(t, withCred(e), withCred(x), both)
	// This entry is always one for requests without credentials.
	checkAllows(t, e, withCred(x), false)
}

func TestHasOfEmpty(t *testing.T) {
	m := made(t, 64)
	for _, now := range instants {
		checkHas(t, m, api.Asked{}, now, false)
		checkHas(t, m, method("PUT", 9), now, false)
		checkHas(t, m, header("*", now), now, false)
	}
}

// TestHasAtAllTimes has an entry that is live or not.
func TestHasAtAllTimes(t *testing.T) {
	for _, at := range instants {
		for _, now := range instants {
			want := at > now
			for _, x := range []api.Asked{method("PUT", at), withCred(header("x", at)), header("authorization", at), {Until: at}} {
				m := filled(t, 2, x)
				checkHas(t, m, x, now, want)
				m.Put(to(x, "null", "null"), now)
				checkHas(t, m, x, now, want)
			}
			checkHas(t, filled(t, 1, method("*", at)), method("PUT", 0), now, want)
			checkHas(t, filled(t, 1, header("*", at)), header("x", 0), now, want)
		}
	}
	if x := method("PUT", 9); !filled(t, 1, x).Has(x, 8) || filled(t, 1, x).Has(x, 9) || filled(t, 1, x).Has(x, 10) {
		t.Error("an entry with Until 9 is live at 8 alone")
	}
}

// TestHasFromAndURL has texts that are the same and not, in both fields.
func TestHasFromAndURL(t *testing.T) {
	texts := append(slices.Clone(odd), here, there, "http://a", "http://A", "HTTP://a", "http://a/", "http://b", "http://b?x", "http://b?X")
	for _, a := range texts {
		for _, b := range texts {
			for _, x := range []api.Asked{method("PUT", 0), header("x", 0), {}} {
				checkCreds(t, to(x, a, there), to(x, b, there), a == b, a == b, a == b)
				checkCreds(t, to(x, here, a), to(x, here, b), a == b, a == b, a == b)
			}
			checkAllows(t, to(method("*", 0), a, b), to(method("PUT", 0), b, a), a == b)
			checkAllows(t, to(header("*", 0), a, here), to(header("x", 0), b, here), a == b)
			checkAllows(t, to(header("*", 0), here, a), to(header("x", 0), here, b), a == b)
		}
	}
	// * is no other origin, and no other URL.
	checkCreds(t, to(method("PUT", 0), "*", "*"), method("PUT", 0), false, false, false)
	checkAllows(t, to(method("PUT", 0), "http://a", "b"), to(method("PUT", 0), "http://ab", ""), false)
}

// TestHasCred has all four ways.
func TestHasCred(t *testing.T) {
	for _, x := range []api.Asked{method("PUT", 0), method("*", 0), method("GET", 0), header("x", 0), header("*", 0), header("authorization", 0), method("", 0)} {
		checkAllows(t, x, x, true)
		checkAllows(t, withCred(x), x, true)
		checkAllows(t, withCred(x), withCred(x), true)
		checkAllows(t, x, withCred(x), false)
	}
}

// TestHasMethod has names of all kinds on both sides.
func TestHasMethod(t *testing.T) {
	texts := append(slices.Clone(odd), "PUT", "put", "Put", "PUTS", "PU", "PUT ", "GET", "get", "HEAD", "POST", "authorization", "Authorization", "PUT,GET")
	for _, a := range texts {
		for _, b := range texts {
			named := a == b
			starred := a == "*" && b != ""
			checkCreds(t, method(a, 0), method(b, 0), named || starred, named, named)
			// The same, for one header.
			e, x := method(a, 0), method(b, 0)
			e.Header, x.Header = "x", "x"
			checkCreds(t, e, x, named || starred, named, named)
			x.Header = "y"
			checkCreds(t, e, x, false, false, false)
		}
	}
	checkCreds(t, method("*", 0), method("", 0), false, false, false)
	checkCreds(t, method("*", 0), method("*", 0), true, true, true)
	checkCreds(t, method("*", 0), method("PUT", 0), true, false, false)
	checkCreds(t, method("PUT", 0), method("*", 0), false, false, false)
	checkCreds(t, method("", 0), method("", 0), true, true, true)
	checkCreds(t, method("", 0), method("PUT", 0), false, false, false)
	checkCreds(t, method("PUT", 0), method("", 0), false, false, false)
	checkCreds(t, method("PUT", 0), method("put", 0), false, false, false)
	checkCreds(t, method("*", 0), method("authorization", 0), true, false, false)
}

// TestHasHeader has names of all kinds on both sides.
func TestHasHeader(t *testing.T) {
	texts := append(slices.Clone(odd), "x", "X", "x-a", "x ", "authorization", "Authorization", "AUTHORIZATION", "authorizatioN", "authorization ", " authorization", "authorizations", "authorizatio", "proxy-authorization", "authori\u017Fation", "accept", "x,a")
	for _, a := range texts {
		for _, b := range texts {
			named := a == b
			starred := a == "*" && b != "" && b != "authorization"
			checkCreds(t, header(a, 0), header(b, 0), named || starred, named, named)
			// The same, for one method.
			e, x := header(a, 0), header(b, 0)
			e.Method, x.Method = "PUT", "PUT"
			checkCreds(t, e, x, named || starred, named, named)
			x.Method = "put"
			checkCreds(t, e, x, false, false, false)
		}
	}
	checkCreds(t, header("*", 0), header("", 0), false, false, false)
	checkCreds(t, header("*", 0), header("*", 0), true, true, true)
	checkCreds(t, header("*", 0), header("x", 0), true, false, false)
	checkCreds(t, header("x", 0), header("*", 0), false, false, false)
	checkCreds(t, header("x", 0), header("X", 0), false, false, false)
	checkCreds(t, header("", 0), header("x", 0), false, false, false)
	checkCreds(t, header("x", 0), header("", 0), false, false, false)
}

func TestHasAuthorization(t *testing.T) {
	checkCreds(t, header("authorization", 0), header("authorization", 0), true, true, true)
	checkCreds(t, header("*", 0), header("authorization", 0), false, false, false)
	checkCreds(t, header("authorization", 0), header("Authorization", 0), false, false, false)
	checkCreds(t, header("Authorization", 0), header("authorization", 0), false, false, false)
	// Names are compared as they are: in another case, it is one of those that
	// * stands for.
	checkCreds(t, header("*", 0), header("Authorization", 0), true, false, false)
	checkCreds(t, header("*", 0), header("AUTHORIZATION", 0), true, false, false)
	list := []api.Asked{header("*", 9), withCred(header("*", 9)), header("x", 9), method("authorization", 9), header("Authorization", 9)}
	m := filled(t, 64, list...)
	checkHas(t, m, header("authorization", 0), 0, false)
	checkHas(t, m, withCred(header("authorization", 0)), 0, false)
	checkPut(t, m, header("authorization", 9), 0, append(list, header("authorization", 9))...)
	checkHas(t, m, header("authorization", 0), 0, true)
	checkHas(t, m, withCred(header("authorization", 0)), 0, false)
}

// TestHasBoth has entries and x with a method and a header.
func TestHasBoth(t *testing.T) {
	texts := []string{"", "*", "a", "b", "authorization"}
	for _, a := range texts {
		for _, b := range texts {
			for _, c := range texts {
				for _, d := range texts {
					e := api.Asked{From: here, URL: there, Method: a, Header: b}
					x := api.Asked{From: here, URL: there, Method: c, Header: d}
					starredMethod := a == "*" && c != ""
					starredHeader := b == "*" && d != "" && d != "authorization"
					checkCreds(t, e, x, (a == c || starredMethod) && (b == d || starredHeader), a == c && b == d, a == c && b == d)
				}
			}
		}
	}
}

// TestHasOfOneEntry has a method and a header that two entries allow, but no
// single one.
func TestHasOfOneEntry(t *testing.T) {
	x := api.Asked{From: here, URL: there, Method: "PUT", Header: "x"}
	for _, y := range []api.Asked{x, withCred(x)} {
		list := []api.Asked{method("PUT", 9), header("x", 9), withCred(method("PUT", 9)), withCred(header("x", 9)), method("*", 9), header("*", 9)}
		checkHas(t, filled(t, 64, list...), y, 0, false)
		list = append(list, to(until(y, 9), "null", there), to(until(y, 9), here, here), until(y, -1))
		checkHas(t, filled(t, 64, list...), y, 0, false)
		checkHas(t, filled(t, 64, list...), y, -2, true)
	}
	// What one entry has in time, or in credentials, is not another one's.
	checkHas(t, filled(t, 2, method("PUT", 3), method("DELETE", 9)), method("PUT", 9), 5, false)
	checkHas(t, filled(t, 2, header("x", 9), withCred(header("x", 3))), withCred(header("x", 9)), 5, false)
	checkHas(t, filled(t, 2, header("*", 9), withCred(header("y", 9))), withCred(header("x", 9)), 5, false)
	checkHas(t, filled(t, 2, header("*", 3), withCred(header("*", 9))), header("x", 9), 5, false)
	checkHas(t, filled(t, 2, header("*", 3), withCred(header("x", 9))), header("x", 9), 5, true)
}

// TestHasPlaces has one entry that satisfies it among many.
func TestHasPlaces(t *testing.T) {
	for _, number := range []int{1, 2, 3, 63, 64} {
		list := numbered(slices.Repeat([]int{9}, number)...)
		for i := range list {
			m := filled(t, number, list...)
			checkHas(t, m, list[i], 8, true)
			checkHas(t, m, withCred(list[i]), 8, false)
			over := slices.Clone(list)
			over[i].Until = 8
			checkHas(t, filled(t, 64, over...), list[i], 8, false)
			star := slices.Clone(list)
			star[i].Method = "*"
			checkHas(t, filled(t, 64, star...), list[i], 8, true)
			checkHas(t, filled(t, 64, star...), method("", 9), 8, false)
			others := slices.Delete(slices.Clone(list), i, i+1)
			checkHas(t, filled(t, 64, others...), list[i], 8, false)
		}
	}
}

// TestHasBehindChanges asks behind each kind of call.
func TestHasBehindChanges(t *testing.T) {
	m := made(t, 2)
	a, b, c := method("A", 5), header("b", 6), withCred(header("c", 7))
	m.Put(a, 0)
	checkHas(t, m, a, 4, true)
	m.Put(until(a, 4), 0)
	checkHas(t, m, a, 4, false)
	m.Put(until(a, 8), 4)
	checkHas(t, m, a, 7, true)
	m.Put(b, 0)
	checkHas(t, m, a, 0, true)
	checkHas(t, m, b, 0, true)
	m.Put(c, 0)
	checkHas(t, m, a, 0, false)
	checkHas(t, m, b, 0, true)
	checkHas(t, m, c, 0, true)
	m.Drop(here, here)
	checkHas(t, m, b, 0, true)
	m.Drop(here, there)
	checkHas(t, m, b, 0, false)
	checkHas(t, m, c, 0, false)
}

// TestNil has Memos that New has not returned: nil, and one without room.
func TestNil(t *testing.T) {
	for _, m := range []*Memo{nil, {}} {
		for range 3 {
			for _, now := range []int{-1, 0, 1, math.MinInt, math.MaxInt} {
				for _, x := range []api.Asked{{}, method("PUT", 9), withCred(header("*", math.MaxInt))} {
					m.Put(x, now)
					if m.Has(x, now) {
						t.Errorf("%v has %s", m, show(x))
					}
					m.Drop(x.From, x.URL)
					m.Put(x, now)
				}
			}
			if list := m.List(); len(list) != 0 {
				t.Errorf("%v has %s", m, show(list...))
			}
		}
	}
	var m *Memo
	if m.List() != nil {
		t.Error("the list of nil is not nil")
	}
}

// TestApart has Memos that do not know of each other.
func TestApart(t *testing.T) {
	a, b := made(t, 2), made(t, 2)
	x, y, z := method("A", 9), method("B", 9), method("C", 9)
	checkPut(t, a, x, 0, x)
	checkList(t, b)
	checkHas(t, b, x, 0, false)
	checkPut(t, b, y, 0, y)
	checkList(t, a, x)
	checkPut(t, b, until(x, 5), 0, y, until(x, 5))
	checkList(t, a, x)
	checkPut(t, b, z, 0, until(x, 5), z)
	checkPut(t, a, z, 0, x, z)
	checkDrop(t, b, here, there)
	checkList(t, a, x, z)
	checkHas(t, a, x, 0, true)
	made(t, 2).Put(y, 9)
	checkList(t, a, x, z)
	checkList(t, b)
	// Results of two Memos share no memory either.
	b = filled(t, 2, x, z)
	fill(a.List())
	fill(b.List())
	checkList(t, a, x, z)
	checkList(t, b, x, z)
}

// model keeps entries by their keys, in no order: that is told by turns.
type model struct {
	most, next int
	turns      map[api.Asked]int
	untils     map[api.Asked]int
}

func newModel(most int) *model {
	return &model{most: most, turns: map[api.Asked]int{}, untils: map[api.Asked]int{}}
}

func (m *model) remove(k api.Asked) {
	delete(m.turns, k)
	delete(m.untils, k)
}

func (m *model) put(x api.Asked, now int) {
	k := until(x, 0)
	if _, ok := m.untils[k]; ok {
		m.untils[k] = x.Until
		return
	}
	if len(m.turns) == m.most {
		for old, at := range m.untils {
			if at <= now {
				m.remove(old)
			}
		}
	}
	if len(m.turns) == m.most {
		m.remove(until(m.list()[0], 0))
	}
	m.next++
	m.turns[k], m.untils[k] = m.next, x.Until
}

func (m *model) list() []api.Asked {
	var out []api.Asked
	for k := range m.turns {
		out = append(out, k)
	}
	slices.SortFunc(out, func(a, b api.Asked) int { return m.turns[a] - m.turns[b] })
	for i, k := range out {
		out[i].Until = m.untils[k]
	}
	return out
}

// has goes through the keys of all entries that would do.
func (m *model) has(x api.Asked, now int) bool {
	keys := []api.Asked{until(withCred(x), 0)}
	if !x.Cred {
		methods, headers := []string{x.Method}, []string{x.Header}
		if x.Method != "" {
			methods = append(methods, "*")
		}
		switch x.Header {
		case "", "authorization":
		default:
			headers = append(headers, "*")
		}
		for _, name := range methods {
			for _, field := range headers {
				keys = append(keys, api.Asked{From: x.From, URL: x.URL, Method: name, Header: field})
			}
		}
	}
	return slices.ContainsFunc(keys, func(k api.Asked) bool {
		at, ok := m.untils[k]
		return ok && at > now
	})
}

func (m *model) drop(from, url string) {
	for k := range m.turns {
		if k.From == from && k.URL == url {
			m.remove(k)
		}
	}
}

func pick[T any](r *rand.Rand, list ...T) T {
	return list[r.Intn(len(list))]
}

func randomAsked(r *rand.Rand) api.Asked {
	x := api.Asked{From: pick(r, "a", "b", "A"), URL: pick(r, "u", "v"), Cred: r.Intn(2) == 0, Until: r.Intn(16)}
	if r.Intn(8) == 0 {
		x.Until = pick(r, instants...)
	}
	if kind := r.Intn(8); kind < 4 {
		x.Method = pick(r, "PUT", "*", "put", "X", "authorization", "")
	} else if kind < 7 {
		x.Header = pick(r, "x", "*", "X", "authorization", "Authorization", "")
	} else {
		x.Method, x.Header = pick(r, "PUT", "*", "X"), pick(r, "x", "*", "authorization")
	}
	return x
}

// randomQuestion mostly asks for what an entry allows, or nearly so.
func randomQuestion(r *rand.Rand, list []api.Asked) api.Asked {
	x := randomAsked(r)
	if len(list) == 0 || r.Intn(4) == 0 {
		return x
	}
	e := pick(r, list...)
	switch r.Intn(8) {
	case 0:
		e.From = x.From
	case 1:
		e.URL = x.URL
	case 2, 3:
		e.Cred = x.Cred
	}
	if r.Intn(2) == 0 && (e.Method == "*" || r.Intn(4) == 0) {
		e.Method = x.Method
	}
	if r.Intn(2) == 0 && (e.Header == "*" || r.Intn(4) == 0) {
		e.Header = x.Header
	}
	return e
}

// TestRandom has several Memos at once, each with a model of its own.
func TestRandom(t *testing.T) {
	r := rand.New(rand.NewSource(15))
	told := map[bool]int{}
	for range 300 {
		var memos []*Memo
		var models []*model
		for range 3 {
			most := pick(r, 1, 2, 3, 4, 8, 16, 63, 64)
			memos, models = append(memos, made(t, most)), append(models, newModel(most))
		}
		for range 300 {
			i := r.Intn(3)
			x, now := randomAsked(r), r.Intn(16)
			if r.Intn(16) == 0 {
				now = pick(r, instants...)
			}
			switch kind := r.Intn(40); {
			case kind < 20:
				memos[i].Put(x, now)
				models[i].put(x, now)
			case kind < 39:
				x, now := randomQuestion(r, models[i].list()), now-r.Intn(8)
				want := models[i].has(x, now)
				checkHas(t, memos[i], x, now, want)
				told[want]++
			default:
				memos[i].Drop(x.From, x.URL)
				models[i].drop(x.From, x.URL)
			}
			for i, m := range memos {
				checkList(t, m, models[i].list()...)
			}
		}
	}
	if told[true] < 10000 || told[false] < 10000 {
		t.Errorf("of the results %v, one is hardly tested", told)
	}
}

// TestNothingIsKept does the same with one Memo after the other.
func TestNothingIsKept(t *testing.T) {
	for range 3 {
		m := made(t, 2)
		checkHas(t, m, method("A", 9), 0, false)
		checkPut(t, m, method("A", 1), 0, method("A", 1))
		checkPut(t, m, header("b", 2), 0, method("A", 1), header("b", 2))
		checkHas(t, m, method("A", 9), 0, true)
		checkPut(t, m, header("c", 3), 1, header("b", 2), header("c", 3))
		checkDrop(t, m, here, there)
		checkPut(t, m, header("d", 3), 0, header("d", 3))
	}
}

// FuzzMemo takes calls from bytes, five for each.
func FuzzMemo(f *testing.F) {
	f.Add(0, []byte("PaPa\x05Pa*a\x05Ha\x01a\x04"))
	f.Add(1, []byte{0, 1, 2, 3, 4, 0, 9, 8, 7, 6, 1, 1, 2, 3, 4, 2, 1, 0, 0, 0})
	f.Add(63, []byte{})
	f.Fuzz(func(t *testing.T, most int, calls []byte) {
		m, e := New(most)
		if ok := 0 < most && most < 65; (e == api.OK) != ok || (m != nil) != ok || !ok && e != api.ErrArg {
			t.Fatalf("New(%d) = %v, %d", most, m, e)
		}
		if m == nil {
			most &= 63
			m, most = made(t, most+1), most+1
		}
		plain := newModel(most)
		names := []string{"", "*", "a", "A", "authorization", "PUT", "\xFF", here}
		for ; len(calls) >= 5; calls = calls[5:] {
			x := api.Asked{From: names[calls[1]&7], URL: names[calls[1]>>3&7], Cred: calls[1]>>6&1 == 1, Method: names[calls[2]&7], Header: names[calls[2]>>3&7], Until: int(int8(calls[3]))}
			now := int(int8(calls[4]))
			switch calls[0] % 4 {
			case 0, 1:
				m.Put(x, now)
				plain.put(x, now)
			case 2:
				checkHas(t, m, x, now, plain.has(x, now))
			case 3:
				m.Drop(x.From, x.URL)
				plain.drop(x.From, x.URL)
			}
			checkList(t, m, plain.list()...)
		}
	})
}
