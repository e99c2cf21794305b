package fetch

import (
	"fmt"
	"math"
	"slices"
	"strings"
	"testing"

	"pursuivant/api"
)

// creds holds all modes of credentials.
var creds = []int{api.Omit, api.OwnOnly, api.Include}

// target is where the fetches of preflights go.
const target = there + "/x?y#z"

// checkSent checks what Sent returns, twice, and that nothing else counts.
func checkSent(t *testing.T, f api.Fetch, want string) {
	t.Helper()
	for i := range 4 {
		g := f
		check := lendHeaders(t, &g.Request.Headers, i >= 2)
		if got := Sent(g); got != want {
			t.Errorf("Sent(%s) = %q", show(f), got)
		}
		check()
	}
}

func TestSent(t *testing.T) {
	for _, from := range []string{here, "http://a", "null", "https://a:80"} {
		for _, mode := range modes {
			for _, taint := range taints {
				for _, hops := range []int{0, 1, 20} {
					f := with(going("PUT", target, mode, taint), func(f *api.Fetch) {
						f.From, f.Hops, f.Request.Headers = from, hops, lines("Origin: x")
					})
					checkSent(t, f, from)
					checkSent(t, with(f, func(f *api.Fetch) { f.Lost = true }), "null")
				}
			}
		}
	}
}

func TestCreds(t *testing.T) {
	for _, c := range []struct{ cred, taint, want int }{
		{api.Omit, api.EndBasic, 0}, {api.Omit, api.EndCors, 0}, {api.Omit, api.EndOpaque, 0},
		{api.OwnOnly, api.EndBasic, 1}, {api.OwnOnly, api.EndCors, 0}, {api.OwnOnly, api.EndOpaque, 0},
		{api.Include, api.EndBasic, 1}, {api.Include, api.EndCors, 1}, {api.Include, api.EndOpaque, 1},
	} {
		for _, mode := range modes {
			for _, lost := range []bool{false, true} {
				for _, url := range []string{here + "/", target, "http://u:p@b/"} {
					f := with(going("GET", url, mode, c.taint), func(f *api.Fetch) {
						f.Request.Cred, f.Lost = c.cred, lost
						f.Request.Headers = named("Authorization", "Cookie")
					})
					for i := range 4 {
						g := f
						check := lendHeaders(t, &g.Request.Headers, i >= 2)
						if Creds(g) != (c.want == 1) {
							t.Errorf("Creds(%s) = %v", show(f), c.want == 0)
						}
						check()
					}
				}
			}
		}
	}
}

func TestHeaders(t *testing.T) {
	one := lines("Accept: a")
	for _, c := range []struct {
		method string
		taints []int // that are sent with an origin
	}{
		{"GET", []int{api.EndCors}}, {"HEAD", []int{api.EndCors}}, {"POST", taints}, {"PUT", taints}, {"DELETE", taints}, {"OPTIONS", taints}, {"PATCH", taints},
		{"gets", taints}, {"GETS", taints}, {"GE", taints}, {"HEADS", taints}, {"heads", taints}, {"HEAD.", taints}, {"patch", taints}, {"*", taints}, {"X-GET", taints}, {"POSTS", taints},
	} {
		for _, taint := range taints {
			for _, mode := range modes {
				for _, cred := range creds {
					f := with(going(c.method, target, mode, taint), func(f *api.Fetch) { f.Request.Cred = cred })
					lost := with(f, func(f *api.Fetch) { f.Lost = true })
					if !slices.Contains(c.taints, taint) {
						checkHeaders(t, f, lines("Accept: */*"))
						checkHeaders(t, lost, lines("Accept: */*"))
						continue
					}
					checkHeaders(t, f, lines("Accept: */*", "Origin: "+here))
					checkHeaders(t, lost, lines("Accept: */*", "Origin: null"))
					f.From, f.Request.Headers = "http://c", one
					checkHeaders(t, f, append(slices.Clone(one), lines("Origin: http://c")...))
					f.From, f.Request.Headers = "null", nil
					checkHeaders(t, f, lines("Origin: null"))
				}
			}
		}
	}
}

// TestHeadersLists has lists of several lengths, and headers named origin.
func TestHeadersLists(t *testing.T) {
	set := api.Header{Name: "Origin", Value: here}
	for n := range 26 {
		var list []api.Header
		for i := range n {
			list = append(list, api.Header{Name: fmt.Sprint("x-", i%7), Value: fmt.Sprint(i)})
		}
		f := with(going("GET", target, api.Cors, api.EndCors), func(f *api.Fetch) { f.Request.Headers = list })
		checkHeaders(t, f, append(slices.Clone(list), set))
		f.Taint = api.EndBasic
		checkHeaders(t, f, list)
		f.Request.Method = "PUT"
		checkHeaders(t, f, append(slices.Clone(list), set))
		// One that is there already stays in its place.
		for i := range list {
			for _, name := range []string{"Origin", "origin", "ORIGIN", "oRiGiN"} {
				before := slices.Clone(list)
				before[i] = api.Header{Name: name, Value: "http://x"}
				after := slices.Clone(list)
				after[i] = set
				f.Request.Headers = before
				checkHeaders(t, f, after)
				// And all later ones go.
				f.Request.Headers = append(before, lines("origin: y", "ORIGIN: "+here)...)
				checkHeaders(t, f, after)
				f.Request.Method = "HEAD"
				checkHeaders(t, f, f.Request.Headers)
				f.Request.Method = "PUT"
			}
		}
	}
	for _, list := range [][]api.Header{nil, {}, make([]api.Header, 0, 9)} {
		f := with(going("GET", target, api.NoCors, api.EndOpaque), func(f *api.Fetch) { f.Request.Headers = list })
		checkHeaders(t, f, nil)
	}
	others := named("Origins", "X-Origin", "Orig\u0130n", "origi", "", "\xFF", "Accept", "Host")
	f := with(going("POST", target, api.NoCors, api.EndOpaque), func(f *api.Fetch) { f.Request.Headers = others })
	checkHeaders(t, f, append(slices.Clone(others), set))
}

// forMethod returns an entry of here for the target and a method, up to a time.
func forMethod(method string, until int) api.Asked {
	return api.Asked{From: here, URL: target, Method: method, Until: until}
}

// forHeader returns such an entry for the name of a header.
func forHeader(name string, until int) api.Asked {
	return api.Asked{From: here, URL: target, Header: name, Until: until}
}

// change returns an entry that was changed.
func change(x api.Asked, change func(x *api.Asked)) api.Asked {
	change(&x)
	return x
}

// crossed returns a fetch to the target, of another origin.
func crossed(method string, texts ...string) api.Fetch {
	return with(going(method, target, api.Cors, api.EndCors), func(f *api.Fetch) { f.Request.Headers = lines(texts...) })
}

// TestAsksFirst has an empty cache, and none.
func TestAsksFirst(t *testing.T) {
	for _, method := range []string{"GET", "HEAD", "POST", "PUT", "DELETE", "OPTIONS", "PATCH", "patch", "get.", "*", "GETS"} {
		simple := method == "GET" || method == "HEAD" || method == "POST"
		for _, taint := range taints {
			for _, mode := range modes {
				for _, cred := range creds {
					check := func(want bool, texts ...string) {
						t.Helper()
						f := with(crossed(method, texts...), func(f *api.Fetch) {
							f.Taint, f.Request.Mode, f.Request.Cred = taint, mode, cred
						})
						want = want && taint == api.EndCors
						checkAsks(t, f, nil, 0, want)
						checkAsks(t, f, stored(t, 1), 0, want)
						f.Lost = true
						checkAsks(t, f, stored(t, 64), 1<<40, want)
					}
					check(!simple)
					check(!simple, "Accept: */*", "accept-language: en", "Content-Type: text/plain")
					check(true, "X-A: 1")
					check(true, "Authorization: x")
					check(true, "Content-Type: application/json")
					check(true, "Accept: a", "accept: (", "Accept: b")
					check(true, "Accept: "+strings.Repeat("a", 129))
					check(true, "x-a: ", "X-B: ", "X-A: ")
				}
			}
		}
	}
}

// TestAsksForMethod has a cache with an entry for a method.
func TestAsksForMethod(t *testing.T) {
	for _, method := range []string{"PUT", "DELETE", "PATCH", "patch"} {
		f := crossed(method, "Accept: */*")
		x := forMethod(method, 5)
		checkAsks(t, f, stored(t, 8, x), 4, false)
		checkAsks(t, f, stored(t, 8, x), math.MinInt, false)
		for _, now := range []int{5, 6, 1 << 40, math.MaxInt} {
			checkAsks(t, f, stored(t, 8, x), now, true)
		}
		for _, other := range []api.Asked{
			{}, forMethod("", 5), forMethod("POST", 5), forMethod(low(method)+"x", 5), forHeader(method, 5), forHeader("*", 5), change(x, func(x *api.Asked) { x.Header = "x" }), change(x, func(x *api.Asked) { x.From = "null" }), change(x, func(x *api.Asked) { x.From = there }), change(x, func(x *api.Asked) { x.From = "" }),
			change(x, func(x *api.Asked) { x.URL = there + "/x?y" }), change(x, func(x *api.Asked) { x.URL = there + "/x" }), change(x, func(x *api.Asked) { x.URL = "http://B.example/x?y#z" }), change(x, func(x *api.Asked) { x.URL = "http://u@b.example/x?y#z" }), change(x, func(x *api.Asked) { x.From, x.URL = x.URL, x.From }),
			change(forMethod("*", 5), func(x *api.Asked) { x.Cred = true }),
		} {
			checkAsks(t, f, stored(t, 8, other), 4, true)
			checkAsks(t, f, stored(t, 8, other, x), 4, false)
		}
		// For a fetch without credentials, an entry with them holds too, but not
		// the other way round.
		withCred := change(x, func(x *api.Asked) { x.Cred = true })
		checkAsks(t, f, stored(t, 8, withCred), 4, false)
		checkAsks(t, f, stored(t, 8, forMethod("*", 5)), 4, false)
		for _, cred := range creds {
			f.Request.Cred = cred
			checkAsks(t, f, stored(t, 8, x), 4, cred == api.Include)
			checkAsks(t, f, stored(t, 8, forMethod("*", 5)), 4, cred == api.Include)
			checkAsks(t, f, stored(t, 8, withCred), 4, false)
			checkAsks(t, f, stored(t, 8, change(forMethod("*", 5), func(x *api.Asked) { x.Cred = true })), 4, true)
		}
	}
	// None is needed for a method that is simple, however old it is.
	for _, method := range []string{"GET", "HEAD", "POST"} {
		checkAsks(t, crossed(method), stored(t, 8, forMethod(method, 5), forMethod("PUT", 9)), 6, false)
	}
}

// TestAsksForHeaders has a cache with entries for each set of some names.
func TestAsksForHeaders(t *testing.T) {
	entries := []api.Asked{forHeader("x-a", 9), forHeader("x-b", 9), forHeader("content-type", 9), forHeader("authorization", 9), forMethod("PUT", 9), forHeader("*", 9)}
	headers := []string{"X-A: 1", "x-B: 2", "Content-Type: text/html", "AUTHORIZATION: 4"}
	for set := range 1 << len(entries) {
		var list []api.Asked
		for i, x := range entries {
			if set>>i&1 == 1 {
				list = append(list, x)
			}
		}
		for asked := range 1 << len(headers) {
			var texts []string
			missing := false
			for i, text := range headers {
				if asked>>i&1 == 1 {
					texts = append(texts, text)
					any := set>>5&1 == 1 && i != 3
					missing = missing || set>>i&1 == 0 && !any
				}
			}
			texts = append(texts, "Accept: */*")
			checkAsks(t, crossed("GET", texts...), stored(t, 8, list...), 8, missing)
			checkAsks(t, crossed("PUT", texts...), stored(t, 8, list...), 8, missing || set>>4&1 == 0)
			checkAsks(t, crossed("PUT", texts...), stored(t, 8, list...), 9, true)
			checkAsks(t, crossed("GET", texts...), stored(t, 8, list...), 9, asked != 0)
			slices.Reverse(texts)
			checkAsks(t, crossed("POST", slices.Concat(texts, texts)...), stored(t, 8, list...), 8, missing)
			// Each fetch but one with the taint of CORS is sent.
			f := crossed("PUT", texts...)
			f.Taint = api.EndBasic
			checkAsks(t, f, stored(t, 8, list...), 8, false)
		}
	}
}

// TestAsksForOneHeader has entries that do not hold.
func TestAsksForOneHeader(t *testing.T) {
	f := crossed("GET", "X-A: 1")
	x := forHeader("x-a", 5)
	checkAsks(t, f, stored(t, 8, x), 4, false)
	checkAsks(t, f, stored(t, 8, x), 5, true)
	for _, other := range []api.Asked{
		forHeader("X-A", 5), forHeader("", 5), forHeader("x-", 5), forMethod("x-a", 5), forMethod("*", 5), change(x, func(x *api.Asked) { x.Method = "GET" }), change(x, func(x *api.Asked) { x.From = "null" }), change(x, func(x *api.Asked) { x.URL = there + "/x?y" }), change(x, func(x *api.Asked) { x.URL = target + "z" }),
		change(forHeader("*", 5), func(x *api.Asked) { x.Cred = true }), change(forHeader("*", 5), func(x *api.Asked) { x.From = there }),
	} {
		checkAsks(t, f, stored(t, 8, other), 4, true)
		checkAsks(t, f, stored(t, 8, other, x), 4, false)
	}
	for _, cred := range creds {
		f.Request.Cred = cred
		checkAsks(t, f, stored(t, 8, x), 4, cred == api.Include)
		checkAsks(t, f, stored(t, 8, change(x, func(x *api.Asked) { x.Cred = true })), 4, false)
		checkAsks(t, f, stored(t, 8, forHeader("*", 5)), 4, cred == api.Include)
	}
	// An origin that is lost has entries of its own.
	f = with(crossed("PUT", "X-A: 1"), func(f *api.Fetch) { f.Lost = true })
	null := func(x *api.Asked) { x.From = "null" }
	checkAsks(t, f, stored(t, 8, forMethod("PUT", 5), x), 4, true)
	checkAsks(t, f, stored(t, 8, change(forMethod("PUT", 5), null), x), 4, true)
	checkAsks(t, f, stored(t, 8, forMethod("PUT", 5), change(x, null)), 4, true)
	checkAsks(t, f, stored(t, 8, change(forMethod("PUT", 5), null), change(x, null)), 4, false)
	f.Lost = false
	checkAsks(t, f, stored(t, 8, change(forMethod("PUT", 5), null), change(x, null)), 4, true)
	f.From = "null"
	checkAsks(t, f, stored(t, 8, change(forMethod("PUT", 5), null), change(x, null)), 4, false)
}

// TestAsksWithUser has a user, which no entry has.
func TestAsksWithUser(t *testing.T) {
	for _, user := range []string{"u", "u:p", ":", strings.Repeat("u", 128)} {
		f := with(crossed("PUT", "X-A: 1"), func(f *api.Fetch) { f.Request.URL = "http://" + user + "@b.example/x?y#z" })
		full := func(x *api.Asked) { x.URL = f.Request.URL }
		checkAsks(t, f, stored(t, 8, forMethod("PUT", 5), forHeader("x-a", 5)), 4, false)
		checkAsks(t, f, stored(t, 8, change(forMethod("PUT", 5), full), change(forHeader("x-a", 5), full)), 4, true)
		checkAsks(t, f, stored(t, 8, forMethod("PUT", 5), change(forHeader("x-a", 5), full)), 4, true)
		checkAsks(t, f, stored(t, 8, change(forMethod("PUT", 5), full), forHeader("x-a", 5)), 4, true)
	}
	// An @ elsewhere is no user.
	f := with(crossed("PUT"), func(f *api.Fetch) { f.Request.URL = there + "/u@b" })
	checkAsks(t, f, stored(t, 8, api.Asked{From: here, URL: there + "/u@b", Method: "PUT", Until: 5}), 4, false)
	checkAsks(t, f, stored(t, 8, api.Asked{From: here, URL: there + "/b", Method: "PUT", Until: 5}), 4, true)
}

// lets returns a response to a preflight of here that succeeds with each mode of
// credentials.
func lets(methods, headers, age string) api.Response {
	x := api.Response{Status: 204, Headers: lines("Access-Control-Allow-Origin: "+here, "Access-Control-Allow-Credentials: true"), Body: "body"}
	for _, h := range lines("Access-Control-Allow-Methods: "+methods, "access-control-allow-headers: "+headers, "ACCESS-CONTROL-MAX-AGE: "+age) {
		if h.Value != "" {
			x.Headers = append(x.Headers, h)
		}
	}
	return x
}

// forAll returns entries for methods and then for names of headers.
func forAll(until int, methods, names []string) []api.Asked {
	var out []api.Asked
	for _, method := range methods {
		out = append(out, forMethod(method, until))
	}
	for _, name := range names {
		out = append(out, forHeader(name, until))
	}
	return out
}

// checkLets checks a response that lets a fetch, with an empty cache.
func checkLets(t *testing.T, f api.Fetch, x api.Response, now int, after ...api.Asked) {
	t.Helper()
	checkLearn(t, f, 64, nil, x, now, true, after...)
}

func TestLearn(t *testing.T) {
	put, both := crossed("PUT"), crossed("PUT", "X-A: 1", "x-b: 2")
	checkLets(t, put, lets("PUT", "", ""), 0, forMethod("PUT", 5))
	checkLets(t, put, lets("PUT", "", "10"), 7, forMethod("PUT", 17))
	checkLets(t, put, lets("PUT, DELETE", "", "10"), 7, forAll(17, []string{"PUT", "DELETE"}, nil)...)
	checkLets(t, put, lets("DELETE,PUT,patch,GET", "X-C, accept", "1"), 0, forAll(1, []string{"DELETE", "PUT", "patch", "GET"}, []string{"x-c", "accept"})...)
	checkLets(t, both, lets("PUT", "X-A, X-B", "60"), -60, forAll(0, []string{"PUT"}, []string{"x-a", "x-b"})...)
	checkLets(t, both, lets(" ,b,PUT ,, a", "X-D,x-B,,X-c,\tx-a", "60"), 1, forAll(61, []string{"b", "PUT", "a"}, []string{"x-d", "x-b", "x-c", "x-a"})...)
	checkLets(t, crossed("GET"), lets("", "", ""), 0)
	checkLets(t, crossed("POST", "X-A: 1"), lets("", "x-a", ""), 0, forHeader("x-a", 5))
	checkLets(t, crossed("GET"), lets("PUT", "", ""), 0, forMethod("PUT", 5))
	checkLets(t, put, lets("PUT,PUT,a,PUT", "x,X,y,x", ""), 0, forAll(5, []string{"PUT", "a"}, []string{"x", "y"})...)
	checkLets(t, both, lets("*", "*", ""), 0, forAll(5, []string{"*"}, []string{"*"})...)
	checkLets(t, both, lets("a,*,b", "c,*,d", ""), 0, forAll(5, []string{"a", "*", "b"}, []string{"c", "*", "d"})...)
	checkLets(t, crossed("PUT", "Accept: */*", "Authorization: 1"), lets("*", "*,Authorization", ""), 0, forAll(5, []string{"*"}, []string{"*", "authorization"})...)
	// Of a response, values of one name are one.
	x := lets("PUT", "x-a", "")
	x.Headers = append(x.Headers, lines("access-control-allow-methods: b", "Access-Control-Allow-Headers: X-B")...)
	checkLets(t, both, x, 0, forAll(5, []string{"PUT", "b"}, []string{"x-a", "x-b"})...)
}

// TestLearnAge has the times up to which entries hold.
func TestLearnAge(t *testing.T) {
	f := crossed("PUT", "X-A: 1")
	for _, c := range []struct {
		text string
		age  int
	}{
		{"0", 0}, {"1", 1}, {"5", 5}, {"", 5}, {"x", 5}, {"-1", 5}, {"1.5", 5}, {"007", 7}, {"86399", 86399}, {"86400", 86400}, {"86401", 86400}, {"999999999999999999999999", 86400},
	} {
		for _, now := range []int{0, 1, 3, -1, -86400, 1<<31 - 1, 1 << 32, 1 << 40, math.MinInt, math.MinInt + 1, math.MaxInt - c.age, math.MaxInt - c.age - 1} {
			checkLets(t, f, lets("PUT", "X-A", c.text), now, forAll(now+c.age, []string{"PUT"}, []string{"x-a"})...)
		}
		// The greatest time that there is.
		for _, now := range []int{math.MaxInt - c.age + 1, math.MaxInt - 1, math.MaxInt} {
			if now > math.MaxInt-c.age {
				checkLets(t, f, lets("PUT", "X-A", c.text), now, forAll(math.MaxInt, []string{"PUT"}, []string{"x-a"})...)
			}
		}
	}
	x := lets("PUT", "X-A", "10")
	x.Headers = append(x.Headers, lines("Access-Control-Max-Age: 10")...)
	checkLets(t, f, x, 0, forAll(5, []string{"PUT"}, []string{"x-a"})...)
}

// TestLearnCred has entries with credentials and without, by the mode and the
// taint.
func TestLearnCred(t *testing.T) {
	for _, cred := range creds {
		for _, taint := range taints {
			f := with(crossed("PUT", "X-A: 1"), func(f *api.Fetch) { f.Request.Cred, f.Taint = cred, taint })
			want := forAll(5, []string{"PUT"}, []string{"x-a"})
			for i := range want {
				want[i].Cred = cred == api.Include || cred == api.OwnOnly && taint == api.EndBasic
			}
			checkLets(t, f, lets("PUT", "x-a", ""), 0, want...)
			// Not all responses succeed with credentials.
			any := lets("PUT", "x-a", "")
			any.Headers[0].Value = "*"
			no := lets("PUT", "x-a", "")
			no.Headers[1].Value = "True"
			star, name := lets("*", "x-a", ""), lets("PUT", "*", "")
			wantStar, wantName := slices.Clone(want), slices.Clone(want)
			wantStar[0].Method, wantName[1].Header = "*", "*"
			for _, c := range []struct {
				x    api.Response
				want []api.Asked
			}{{any, want}, {no, want}, {star, wantStar}, {name, wantName}} {
				if cred == api.Include {
					checkLearn(t, f, 64, nil, c.x, 0, false)
				} else {
					checkLets(t, f, c.x, 0, c.want...)
				}
			}
		}
	}
}

// TestLearnOrder has entries that were there, before those that are learned.
func TestLearnOrder(t *testing.T) {
	f := crossed("PUT", "X-A: 1")
	old := []api.Asked{forHeader("x-z", 3), forMethod("PUT", 2), forHeader("x-a", 9), change(forMethod("a", 4), func(x *api.Asked) { x.Cred = true }), change(forMethod("b", 4), func(x *api.Asked) { x.From = "null" }), change(forMethod("b", 4), func(x *api.Asked) { x.URL = there + "/x?y" })}
	// Those with the same key stay where they are.
	want := slices.Clone(old)
	want[1].Until, want[2].Until = 6, 6
	checkLearn(t, f, 16, old, lets("a,PUT,b", "x-c,x-a", "5"), 1, true, append(want, forAll(6, []string{"a", "b"}, []string{"x-c"})...)...)
	want = slices.Clone(old)
	want[1].Until, want[2].Until, want[0].Until = 1, 1, 1
	checkLearn(t, f, 16, old, lets("PUT", "x-z,x-a", "0"), 1, true, want...)
	checkLearn(t, crossed("GET"), 16, old, lets("", "", ""), 1, true, old...)
}

// TestLearnFull has more entries than there is room for.
func TestLearnFull(t *testing.T) {
	f := crossed("PUT", "X-A: 1")
	x := lets("PUT,a,b", "x-a,c", "")
	all := forAll(5, []string{"PUT", "a", "b"}, []string{"x-a", "c"})
	old := forAll(9, []string{"1", "2"}, []string{"3", "4"})
	for most := 1; most <= 12; most++ {
		list := append(slices.Clone(old[:min(most, 4)]), all...)
		checkLearn(t, f, most, old[:min(most, 4)], x, 0, true, list[max(0, len(list)-most):]...)
		checkLearn(t, f, most, nil, x, 0, true, all[max(0, 5-most):]...)
	}
}

// TestLearnFullOfOld has entries that are not live at the time, which go first.
func TestLearnFullOfOld(t *testing.T) {
	f := crossed("PUT", "X-A: 1")
	mixed := []api.Asked{forMethod("1", 9), forMethod("2", 4), forMethod("3", 9), forMethod("4", 3)}
	checkLearn(t, f, 4, mixed, lets("PUT", "x-a", "5"), 3, true, mixed[1], mixed[2], forMethod("PUT", 8), forHeader("x-a", 8))
	checkLearn(t, f, 4, mixed, lets("PUT", "x-a", "5"), 4, true, mixed[0], mixed[2], forMethod("PUT", 9), forHeader("x-a", 9))
	checkLearn(t, f, 4, mixed, lets("PUT", "x-a", "5"), 8, true, mixed[0], mixed[2], forMethod("PUT", 13), forHeader("x-a", 13))
	checkLearn(t, f, 4, mixed, lets("PUT", "x-a", "5"), 9, true, forMethod("PUT", 14), forHeader("x-a", 14))
	checkLearn(t, f, 4, mixed, lets("PUT", "x-a", "5"), 2, true, mixed[2], mixed[3], forMethod("PUT", 7), forHeader("x-a", 7))
	// What is learned with an age of 0 is not live.
	checkLearn(t, f, 2, mixed[:2], lets("PUT,a,b", "x-a", "0"), 1, true, mixed[1], forHeader("x-a", 1))
	checkLearn(t, f, 3, mixed[:3], lets("PUT,a", "x-a,c", "0"), 20, true, forHeader("c", 20))
}

// refused returns responses that do not succeed.
func refused() []api.Response {
	good := lets("PUT", "x-a, authorization", "9")
	var out []api.Response
	for _, status := range []int{0, 100, 199, 300, 301, 304, 307, 400, 404, 500, 599, -204, 1<<32 + 204} {
		x := good
		x.Status = status
		out = append(out, x)
	}
	for _, text := range []string{"", "Access-Control-Allow-Origin: null", "Access-Control-Allow-Origin: " + there, "Access-Control-Allow-Origin: " + here + "/", "Access-Control-Allow-Origin: ", "Access-Control-Allow-Origin: " + here + ", *", "Allow-Origin: *"} {
		x := good
		x.Headers = slices.Concat(lines(text), good.Headers[1:])
		out = append(out, x)
	}
	twice := good
	twice.Headers = slices.Concat(good.Headers, good.Headers[:1])
	return append(out, twice, api.Response{}, api.Response{Status: 200}, lets("PUT, a b", "x-a", ""), lets("PUT,\"", "x-a", ""), lets("PUT", "x-a, (", ""), lets("PUT", "x-a;", ""))
}

// TestLearnRefused has all that a response can lack. Only entries of the same
// origin and URL go.
func TestLearnRefused(t *testing.T) {
	f := crossed("PUT", "X-A: 1")
	stay := []api.Asked{
		change(forMethod("PUT", 9), func(x *api.Asked) { x.From = "null" }), change(forMethod("PUT", 9), func(x *api.Asked) { x.From = there }), change(forHeader("x-a", 9), func(x *api.Asked) { x.URL = there + "/x?y" }), change(forHeader("*", 9), func(x *api.Asked) { x.URL = here }), change(forHeader("x", 9), func(x *api.Asked) { x.URL = "http://u@b.example/x?y#z" }),
		change(forMethod("*", 9), func(x *api.Asked) { x.From, x.URL = x.URL, x.From }), {}, {From: here}, {URL: target},
	}
	goes := []api.Asked{forMethod("PUT", 9), forHeader("x-a", 9), forHeader("*", -5), change(forMethod("PUT", 9), func(x *api.Asked) { x.Cred = true }), forMethod("", 9), change(forMethod("a", 9), func(x *api.Asked) { x.Header = "b" })}
	var all []api.Asked
	for i := range stay {
		all = append(all, stay[i])
		if i < len(goes) {
			all = append(all, goes[i])
		}
	}
	responses := append(refused(),
		// Those do not let the method, or the name.
		lets("", "x-a", ""), lets("DELETE", "x-a", ""), lets("put", "x-a", ""), lets("PUTS, PU", "x-a", ""), lets("GET, POST", "*", ""), lets("x-a", "PUT", ""),
		lets("PUT", "", ""), lets("PUT", "x-b", ""), lets("PUT", "x, a, x-, x-aa", ""), lets("*", "accept", ""), lets("", "", ""), lets("PUT, x-a", "", ""))
	for _, x := range responses {
		for _, now := range []int{-9, 0, 20} {
			checkLearn(t, f, 16, all, x, now, false, stay...)
			checkLearn(t, f, 16, stay, x, now, false, stay...)
			checkLearn(t, f, 16, goes, x, now, false)
			checkLearn(t, f, 1, nil, x, now, false)
		}
		// Another header of the request does not help.
		g := with(f, func(f *api.Fetch) { f.Request.Headers = append(f.Request.Headers, lines("Accept: a", "X-B: 1")...) })
		checkLearn(t, g, 16, all, x, 0, false, stay...)
		// With an origin that is lost, all but that of null stays. That one could
		// be let.
		if slices.Contains(x.Headers, api.Header{Name: "Access-Control-Allow-Origin", Value: "null"}) {
			continue
		}
		g = with(f, func(f *api.Fetch) { f.Lost = true })
		checkLearn(t, g, 16, []api.Asked{goes[0], {From: "null", URL: target, Method: "a", Until: 3}, goes[1], {From: "null", URL: there, Header: "b"}}, x, 0, false, goes[0], goes[1], api.Asked{From: "null", URL: there, Header: "b"})
	}
}

// TestLearnNames has one name among several that is not let.
func TestLearnNames(t *testing.T) {
	f := crossed("PUT", "X-C: 1", "X-A: 2", "Authorization: 3", "x-b: 4", "Accept: */*", "Content-Type: a/b")
	names := []string{"authorization", "content-type", "x-a", "x-b", "x-c"}
	for set := range 1 << len(names) {
		var list []string
		for i, name := range names {
			if set>>i&1 == 1 {
				list = append(list, name)
			}
		}
		text := strings.Join(list, ",")
		if set == 31 {
			checkLets(t, f, lets("PUT", text, ""), 0, forAll(5, []string{"PUT"}, list)...)
		} else {
			checkLearn(t, f, 9, forAll(5, []string{"PUT"}, list), lets("PUT", text, ""), 0, false)
		}
		// Authorization must be named.
		if list = append(list, "*"); set&1 == 1 {
			checkLets(t, f, lets("PUT", text+",*", ""), 0, forAll(5, []string{"PUT"}, list)...)
		} else {
			checkLearn(t, f, 9, nil, lets("PUT", text+",*", ""), 0, false)
		}
	}
}

// TestLearnFrom has the origin that the response must name, and the entries of
// it.
func TestLearnFrom(t *testing.T) {
	for _, c := range []struct {
		from string
		lost bool
		sent string
	}{{here, false, here}, {here, true, "null"}, {"null", false, "null"}, {"http://c", false, "http://c"}, {"http://c", true, "null"}} {
		f := with(crossed("PUT", "X-A: 1"), func(f *api.Fetch) { f.From, f.Lost = c.from, c.lost })
		for _, allow := range []string{here, "null", "http://c", "*"} {
			x := lets("PUT,a", "x-a", "")
			x.Headers[0].Value = allow
			want := forAll(8, []string{"PUT", "a"}, []string{"x-a"})
			for i := range want {
				want[i].From = c.sent
			}
			if allow == "*" || allow == c.sent {
				checkLets(t, f, x, 3, want...)
				continue
			}
			other := api.Asked{From: "http://d", URL: target, Method: "PUT"}
			checkLearn(t, f, 9, append(want, other), x, 3, false, other)
		}
	}
}

// TestLearnWithUser has a user, which no entry has.
func TestLearnWithUser(t *testing.T) {
	for _, user := range []string{"u", "u:p", ":", strings.Repeat("u", 128)} {
		f := with(crossed("PUT"), func(f *api.Fetch) { f.Request.URL = "http://" + user + "@b.example/x?y#z" })
		full := change(forMethod("PUT", 9), func(x *api.Asked) { x.URL = f.Request.URL })
		checkLets(t, f, lets("PUT", "a", ""), 0, forMethod("PUT", 5), forHeader("a", 5))
		checkLearn(t, f, 9, []api.Asked{full}, lets("PUT", "a", ""), 0, true, full, forMethod("PUT", 5), forHeader("a", 5))
		checkLearn(t, f, 9, []api.Asked{forMethod("a", 9), full, forHeader("b", 9)}, lets("", "", ""), 0, false, full)
	}
	for _, url := range []string{"http://b/", "https://b:81/x/../y", "http://b/?", "http://b/#", "http://b/@", "http://b/u@c?d@#e@"} {
		f := with(crossed("PUT"), func(f *api.Fetch) { f.Request.URL = url })
		checkLets(t, f, lets("PUT", "", ""), 0, api.Asked{From: here, URL: url, Method: "PUT", Until: 5})
		f.Request.URL = strings.Replace(url, "//", "//user@", 1)
		checkLets(t, f, lets("PUT", "", ""), 0, api.Asked{From: here, URL: url, Method: "PUT", Until: 5})
	}
}

// TestAsksBehindLearn asks no more while the entries are live.
func TestAsksBehindLearn(t *testing.T) {
	for _, cred := range creds {
		for _, url := range []string{target, "http://u@b.example/x?y#z"} {
			for _, lost := range []bool{false, true} {
				f := with(crossed("PUT", "X-A: 1", "authorization: 2"), func(f *api.Fetch) {
					f.Request.Cred, f.Request.URL, f.Lost = cred, url, lost
				})
				x := lets("PUT", "X-A,Authorization", "10")
				if lost {
					x.Headers[0].Value = "null"
				}
				m := stored(t, 8)
				checkAsks(t, f, m, 3, true)
				if !Learn(f, m, x, 3) || len(m.List()) != 3 {
					t.Fatalf("Learn(%s, %s) leads to %s", show(f), show(x), show(m.List()))
				}
				for now := range 20 {
					checkAsks(t, f, m, now, now >= 13)
				}
				// What is not the same is asked.
				checkAsks(t, with(f, func(f *api.Fetch) { f.Lost = !lost }), m, 3, true)
				checkAsks(t, with(f, func(f *api.Fetch) { f.Request.Method = "DELETE" }), m, 3, true)
				checkAsks(t, with(f, func(f *api.Fetch) { f.Request.URL = there + "/" }), m, 3, true)
				checkAsks(t, with(f, func(f *api.Fetch) { f.Request.Headers = append(f.Request.Headers, lines("x-b: 1")...) }), m, 3, true)
				checkAsks(t, with(f, func(f *api.Fetch) { f.Request.Headers = f.Request.Headers[1:] }), m, 3, false)
				checkAsks(t, with(f, func(f *api.Fetch) { f.Request.Cred = api.Include }), m, 3, cred != api.Include)
				checkAsks(t, with(f, func(f *api.Fetch) { f.Request.Cred = api.Omit }), m, 3, false)
				// It is asked again, and refused.
				if Learn(f, m, lets("", "", ""), 5) || len(m.List()) != 0 {
					t.Fatalf("Learn(%s) leads to %s", show(f), show(m.List()))
				}
				checkAsks(t, f, m, 3, true)
			}
		}
	}
	// Where there is room for one entry only, it may be let and asked again.
	m := stored(t, 1)
	f := crossed("PUT", "X-A: 1")
	if !Learn(f, m, lets("PUT", "x-a", ""), 0) {
		t.Error("not learned")
	}
	checkList(t, m, forHeader("x-a", 5))
	checkAsks(t, f, m, 0, true)
}

// TestPreflightExample has that of the chapter.
func TestPreflightExample(t *testing.T) {
	for method, want := range map[string]bool{"PUT": true, "GET": false, "put": true, "get": false} {
		f, end := Begin(config(), request(method, there, api.Cors))
		if end != 0 {
			t.Fatal(end)
		}
		checkAsks(t, f, stored(t, 8), 0, false)
		if f, end = Gate(config(), f); end != 0 {
			t.Fatal(end)
		}
		checkAsks(t, f, stored(t, 8), 0, want)
	}
}

// TestPreflightUnspecified has fetches that no function returns, for which
// nothing is specified but that the calls end.
func TestPreflightUnspecified(t *testing.T) {
	for _, n := range extremes {
		for _, text := range []string{"", "x", "http://", "\xFF", "*", there, strings.Repeat("x", 9999)} {
			f := api.Fetch{Request: api.Request{Method: text, URL: text, Cred: n, Headers: []api.Header{{Name: text, Value: text}}}, From: text, Taint: n}
			check := lendHeaders(t, &f.Request.Headers, true)
			m := stored(t, 2)
			for _, taint := range []int{n, api.EndCors} {
				f.Taint = taint
				Sent(f)
				Creds(f)
				Headers(f)
				Asks(f, m, n)
				Asks(f, nil, n)
				x := lets(text, text, "")
				x.Headers[0].Value = text
				Learn(f, m, x, n)
				Learn(f, nil, x, n)
				check()
			}
		}
	}
}
