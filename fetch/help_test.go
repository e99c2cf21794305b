package fetch

import (
	"fmt"
	"math"
	"slices"
	"strings"
	"testing"

	"pursuivant/api"
	"pursuivant/memo"
)

const (
	here  = "https://a.example:8443"
	there = "http://b.example"
)

// extremes holds numbers that are no mode, no destination and no end.
var extremes = []int{-1, 0, 11, 12, 255, 256, 257, 258, 259, -253, -254, -255, 1<<16 + 1, 1<<32 + 1, 1<<32 + 2, 1<<32 + 3, -1<<31 + 1, 1<<62 + 2, math.MaxInt, math.MaxInt - 1, math.MinInt, math.MinInt + 1, math.MinInt + 3}

// lines returns the headers that are written as name: value.
func lines(texts ...string) []api.Header {
	var out []api.Header
	for _, text := range texts {
		name, value, _ := strings.Cut(text, ": ")
		out = append(out, api.Header{Name: name, Value: value})
	}
	return out
}

// named returns a header of each name.
func named(names ...string) []api.Header {
	var out []api.Header
	for i, name := range names {
		out = append(out, api.Header{Name: name, Value: fmt.Sprint("value ", i)})
	}
	return out
}

// config returns a config of here with the policies.
func config(policies ...string) api.Config {
	return api.Config{Self: here, Policies: policies, Memo: 8}
}

// request returns a valid request that Begin does not change.
func request(method, url string, mode int) api.Request {
	return api.Request{
		Method: method, URL: url, Mode: mode, Cred: api.OwnOnly, Redirect: api.Follow, Dest: api.DestConnect, Nonce: "nonce",
		Headers: lines("Accept: */*"), Body: "body",
	}
}

// going returns a fetch that here has begun some redirects ago.
func going(method, url string, mode, taint int) api.Fetch {
	return api.Fetch{Request: request(method, url, mode), From: here, Hops: 3, Taint: taint}
}

// withRequest returns a copy of r that was changed.
func withRequest(r api.Request, change func(r *api.Request)) api.Request {
	r.Headers = slices.Clone(r.Headers)
	change(&r)
	return r
}

// with returns a copy of f that was changed.
func with(f api.Fetch, change func(f *api.Fetch)) api.Fetch {
	f.Request.Headers = slices.Clone(f.Request.Headers)
	change(&f)
	return f
}

// low returns s with the letters of ASCII in lower case, and no other letters.
func low(s string) string {
	out := []byte(s)
	for i, c := range out {
		if 'A' <= c && c <= 'Z' {
			out[i] = c - 'A' + 'a'
		}
	}
	return string(out)
}

// cases returns a text of ASCII in lower, upper and mixed case, and with a
// single letter in the other case at each place.
func cases(s string) []string {
	down, up := strings.ToLower(s), strings.ToUpper(s)
	out := []string{down, up}
	mixed := ""
	for i := range len(s) {
		mixed += []string{down, up}[i%2][i : i+1]
		out = append(out, down[:i]+up[i:i+1]+down[i+1:], up[:i]+down[i:i+1]+up[i+1:])
	}
	return append(out, mixed)
}

// near returns tokens that differ from one by a byte that is removed, added or
// changed, or by more.
func near(token string) []string {
	out := []string{token + token, token + "." + token}
	for i := range len(token) + 1 {
		for _, c := range []string{"a", "S", "-", "_", "2"} {
			out = append(out, token[:i]+c+token[i:])
			if i < len(token) && token[i:i+1] != c {
				out = append(out, token[:i]+c+token[i+1:])
			}
		}
		if i < len(token) && len(token) > 1 {
			out = append(out, token[:i]+token[i+1:])
		}
	}
	return out
}

// show writes out a value, as far as a line has room for it.
func show(v any) string {
	return fmt.Sprintf("%.900s", fmt.Sprintf("%#v", v))
}

// sameRequest compares all fields, each with its own.
func sameRequest(r, s api.Request) bool {
	return r.Method == s.Method && r.URL == s.URL && r.Mode == s.Mode && r.Cred == s.Cred && r.Redirect == s.Redirect &&
		r.Dest == s.Dest && r.Nonce == s.Nonce && slices.Equal(r.Headers, s.Headers) && r.Body == s.Body
}

// same compares all fields, each with its own.
func same(a, b api.Fetch) bool {
	return sameRequest(a.Request, b.Request) && a.From == b.From && a.Hops == b.Hops && a.Taint == b.Taint && a.Lost == b.Lost
}

// fill overwrites a list and what lies behind its length.
func fill(list []api.Header) {
	list = list[:cap(list)]
	for i := range list {
		list[i] = api.Header{Name: "changed", Value: "changed"}
	}
}

// behindHeaders and behindPolicies hold what lies behind the length of a list,
// where it must change nothing.
func behindHeaders() []api.Header {
	return append(lines("X-Behind: 1", "Origin: http://behind", "Location: http://behind/", "Authorization: x", "a b: x", ": "+strings.Repeat("x", 513), "Access-Control-Allow-Origin: *",
		"Access-Control-Allow-Credentials: true", "Access-Control-Allow-Methods: *, PUT", "Access-Control-Allow-Headers: *, x-a, authorization", "Access-Control-Max-Age: 99"), make([]api.Header, 24)...)
}

func behindPolicies() []string {
	return slices.Repeat([]string{"default-src 'none'"}, 5)
}

// lend replaces a list by a copy of it, with others behind its length. The
// function that it returns checks that neither has changed.
func lend[T comparable](t *testing.T, list *[]T, others ...T) func() {
	all := append(slices.Clone(*list), others...)
	before := slices.Clone(all)
	*list = all[:len(*list)]
	return func() {
		t.Helper()
		if !slices.Equal(all, before) {
			t.Errorf("of the list %s and what lies behind it, %s is left", show(before), show(all))
		}
	}
}

// lendHeaders lends headers, the second time with others behind them.
func lendHeaders(t *testing.T, list *[]api.Header, second bool) func() {
	if second {
		return lend(t, list, behindHeaders()...)
	}
	return lend(t, list)
}

// given holds the lists of the arguments of one call.
type given struct {
	policies []string
	asked    []api.Header
	answered []api.Header
}

// lendAll lends all of them.
func lendAll(t *testing.T, g *given, second bool) func() {
	var others []string
	if second {
		others = behindPolicies()
	}
	checks := []func(){lend(t, &g.policies, others...), lendHeaders(t, &g.asked, second), lendHeaders(t, &g.answered, second)}
	return func() {
		t.Helper()
		for _, check := range checks {
			check()
		}
	}
}

// checkCalls makes the same call four times, twice with more behind the lists.
// No call may change its arguments, and no result may share memory with them or
// with another result.
func checkCalls(t *testing.T, what string, g given, call func(given) (api.Fetch, int), want api.Fetch, end int) {
	t.Helper()
	var results []api.Fetch
	var checks []func()
	for i := range 4 {
		lent := g
		check := lendAll(t, &lent, i >= 2)
		got, e := call(lent)
		if !same(got, want) || e != end {
			t.Fatalf("%s = %s, %d, want %s, %d", what, show(got), e, show(want), end)
		}
		check()
		results, checks = append(results, got), append(checks, check)
	}
	for i, got := range results {
		fill(got.Request.Headers)
		for _, check := range checks {
			check()
		}
		for _, other := range results[i+1:] {
			if !same(other, want) {
				t.Fatalf("%s: a change of another result changed %s to %s", what, show(want), show(other))
			}
		}
	}
}

func checkBegin(t *testing.T, c api.Config, r api.Request, want api.Fetch, end int) {
	t.Helper()
	g := given{policies: c.Policies, asked: r.Headers}
	checkCalls(t, "Begin("+show(c)+", "+show(r)+")", g, func(g given) (api.Fetch, int) {
		c.Policies, r.Headers = g.policies, g.asked
		return Begin(c, r)
	}, want, end)
}

func checkGate(t *testing.T, c api.Config, f, want api.Fetch, end int) {
	t.Helper()
	g := given{policies: c.Policies, asked: f.Request.Headers}
	checkCalls(t, "Gate("+show(c)+", "+show(f)+")", g, func(g given) (api.Fetch, int) {
		c.Policies, f.Request.Headers = g.policies, g.asked
		return Gate(c, f)
	}, want, end)
}

func checkHeaders(t *testing.T, f api.Fetch, want []api.Header) {
	t.Helper()
	g := given{asked: f.Request.Headers}
	checkCalls(t, "Headers("+show(f)+")", g, func(g given) (api.Fetch, int) {
		f.Request.Headers = g.asked
		return api.Fetch{Request: api.Request{Headers: Headers(f)}}, 0
	}, api.Fetch{Request: api.Request{Headers: want}}, 0)
}

func checkAfter(t *testing.T, f api.Fetch, x api.Response, want api.Fetch, end int) {
	t.Helper()
	g := given{asked: f.Request.Headers, answered: x.Headers}
	checkCalls(t, "After("+show(f)+", "+show(x)+")", g, func(g given) (api.Fetch, int) {
		f.Request.Headers, x.Headers = g.asked, g.answered
		return After(f, x)
	}, want, end)
}

// checkGood calls Good several times, with headers that may not change.
func checkGood(t *testing.T, r api.Request, want bool) {
	t.Helper()
	for i := range 4 {
		s := r
		check := lendHeaders(t, &s.Headers, i >= 2)
		if Good(s) != want {
			t.Fatalf("Good(%s) = %v", show(r), !want)
		}
		check()
	}
}

// stored returns a cache with the entries, which have different keys and are
// not too many.
func stored(t *testing.T, most int, list ...api.Asked) *memo.Memo {
	t.Helper()
	m, e := memo.New(most)
	if e != api.OK {
		t.Fatalf("New(%d) returns %d", most, e)
	}
	for _, x := range list {
		m.Put(x, math.MinInt)
	}
	checkList(t, m, list...)
	return m
}

func checkList(t *testing.T, m *memo.Memo, want ...api.Asked) {
	t.Helper()
	if got := m.List(); !slices.Equal(got, want) {
		t.Fatalf("in the cache is %s, want %s", show(got), show(want))
	}
}

// checkAsks calls Asks several times, with a cache that may not change.
func checkAsks(t *testing.T, f api.Fetch, m *memo.Memo, now int, want bool) {
	t.Helper()
	before := m.List()
	for i := range 4 {
		g := f
		check := lendHeaders(t, &g.Request.Headers, i >= 2)
		if Asks(g, m, now) != want {
			t.Fatalf("Asks(%s, %s, %d) = %v", show(f), show(before), now, !want)
		}
		check()
		checkList(t, m, before...)
	}
}

// checkLearn calls Learn several times, each time with a new cache of the
// entries before, which then has those after, and with a nil one.
func checkLearn(t *testing.T, f api.Fetch, most int, before []api.Asked, x api.Response, now int, want bool, after ...api.Asked) {
	t.Helper()
	for i := range 6 {
		g, y := f, x
		checkAsked, checkAnswered := lendHeaders(t, &g.Request.Headers, i%2 == 1), lendHeaders(t, &y.Headers, i%2 == 1)
		var m *memo.Memo
		if i < 4 {
			m = stored(t, most, before...)
		}
		if Learn(g, m, y, now) != want {
			t.Fatalf("Learn(%s, %s, %s, %d) = %v", show(f), show(before), show(x), now, !want)
		}
		checkAsked()
		checkAnswered()
		fill(g.Request.Headers)
		fill(y.Headers)
		if m != nil {
			checkList(t, m, after...)
		} else {
			checkList(t, m)
		}
	}
}

func TestNumbers(t *testing.T) {
	if api.MaxBody != 2048 || api.MaxHeaders != 24 || api.MaxValue != 512 || api.MaxPolicies != 4 || api.MaxHops != 20 || api.MaxAge != 86400 {
		t.Error("a limit has another number")
	}
	if api.SameOrigin != 1 || api.NoCors != 2 || api.Cors != 3 || api.Omit != 1 || api.OwnOnly != 2 || api.Include != 3 || api.Follow != 1 || api.Stop != 2 || api.Manual != 3 {
		t.Error("a mode has another number")
	}
	if api.EndBasic != 1 || api.EndCors != 2 || api.EndOpaque != 3 || api.EndManual != 4 || api.EndURL != 5 || api.EndMethod != 6 || api.EndHeader != 7 || api.EndPolicy != 8 || api.EndOrigin != 9 || api.EndCheck != 10 || api.EndRedirect != 12 || api.EndMany != 13 || api.EndUser != 14 {
		t.Error("an end has another number")
	}
}
