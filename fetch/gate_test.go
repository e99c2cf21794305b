package fetch

import (
	"math"
	"slices"
	"strings"
	"testing"

	"pursuivant/api"
)

const none = "default-src 'none'"

// taints holds all that a fetch may have.
var taints = []int{api.EndBasic, api.EndCors, api.EndOpaque}

// checkStops checks that Gate ends a fetch.
func checkStops(t *testing.T, c api.Config, f api.Fetch, end int) {
	t.Helper()
	checkGate(t, c, f, api.Fetch{}, end)
}

// checkPasses checks that Gate changes nothing but the taint of a fetch.
func checkPasses(t *testing.T, c api.Config, f api.Fetch, taint int) {
	t.Helper()
	checkGate(t, c, f, with(f, func(f *api.Fetch) { f.Taint = taint }), 0)
}

// checkPolicies checks whether the policies let a fetch pass.
func checkPolicies(t *testing.T, f api.Fetch, pass bool, policies ...string) {
	t.Helper()
	if pass {
		checkPasses(t, config(policies...), f, f.Taint)
	} else {
		checkStops(t, config(policies...), f, api.EndPolicy)
	}
}

// own returns a fetch of here that has not been redirected, to a URL there.
func own(url string) api.Fetch {
	return with(going("GET", url, api.SameOrigin, api.EndBasic), func(f *api.Fetch) { f.Hops = 0 })
}

// crossing returns a fetch to another origin.
func crossing(url string) api.Fetch {
	return with(going("GET", url, api.Cors, api.EndCors), func(f *api.Fetch) { f.Hops = 0 })
}

func TestNumberOfPolicies(t *testing.T) {
	f := own(here + "/x")
	passing := []string{"", "default-src *", "connect-src 'self'", "img-src 'none'", here, "connect-src " + here, "font-src 'none'; connect-src https:"}
	stopping := []string{none, "connect-src", "connect-src " + there, "connect-src https://a.example:8444; default-src *", "DEFAULT-SRC 'NONE'", ";;connect-src 'nonce-nonce' https://a.example"}
	for _, list := range [][]string{nil, {}, make([]string, 0, 9), make([]string, 9)} {
		checkPolicies(t, f, true, list...)
	}
	for number := 1; number <= 12; number++ {
		for k, stop := range stopping {
			var list []string
			for i := range number {
				list = append(list, passing[(i+k)%len(passing)])
			}
			checkPolicies(t, f, true, list...)
			// Each alone would stop it.
			for i := range number {
				one := slices.Clone(list)
				one[i] = stop
				checkPolicies(t, f, i >= 4, one...)
			}
			checkPolicies(t, f, false, slices.Repeat([]string{stop}, number)...)
		}
	}
	// Written out: the fourth counts, and the fifth does not.
	checkPolicies(t, f, true)
	checkPolicies(t, f, false, none)
	checkPolicies(t, f, false, "", "", "", none)
	checkPolicies(t, f, true, "", "", "", "", none)
	checkPolicies(t, f, false, "", "", "", none, none)
	checkPolicies(t, f, false, none, "", "", "", "default-src *")
}

// TestWrongPolicies has policies that are too long, which count as one of the
// first four all the same.
func TestWrongPolicies(t *testing.T) {
	f := own(here + "/x")
	fits := none + strings.Repeat(" ", 1024-len(none))
	for _, long := range []string{fits + " ", fits + ";", strings.Repeat(none+";", 60), strings.Repeat("\xFF", 1025), none + strings.Repeat(" ", 65536)} {
		checkPolicies(t, f, true, long)
		checkPolicies(t, f, true, long, long, long, long)
		checkPolicies(t, f, true, long, long, long, long, none)
		checkPolicies(t, f, true, long, "", "", "", none)
		checkPolicies(t, f, true, "", "", "", long, none)
		checkPolicies(t, f, false, long, none)
		checkPolicies(t, f, false, none, long)
		checkPolicies(t, f, false, long, long, long, none)
		checkPolicies(t, f, false, "", long, none, long)
		checkPolicies(t, f, false, long, "default-src *", long, none, long)
	}
	checkPolicies(t, f, false, fits)
	checkPolicies(t, f, false, "", "", fits)
	for _, odd := range []string{"x", ";", " ", "\xFF", "default-src: 'none'", "'none'", "default_src 'none'", "script-src 'none'; x connect-src", "\x00" + none} {
		checkPolicies(t, f, true, odd, odd, odd, odd)
		checkPolicies(t, f, false, odd, odd, odd, none)
	}
}

// TestPoliciesByDest has what each directive stops alone.
func TestPoliciesByDest(t *testing.T) {
	all := []int{1, 2, 3, 4, 5, 6, 7, 8, 9, 10}
	for _, c := range []struct {
		policy string
		stops  []int
	}{
		{none, all}, {"", nil}, {"default-src *", nil}, {"script-src", []int{1, 8}}, {"style-src", []int{2}}, {"img-src", []int{3}}, {"font-src", []int{4}}, {"connect-src", []int{5}}, {"media-src", []int{6}}, {"frame-src", []int{7}}, {"child-src", []int{7, 8}}, {"worker-src", []int{8}}, {"object-src", []int{9}}, {"manifest-src", []int{10}},
		{none + "; script-src *", []int{2, 3, 4, 5, 6, 7, 9, 10}}, {none + "; img-src *", []int{1, 2, 4, 5, 6, 7, 8, 9, 10}}, {"default-src *; font-src 'none'", []int{4}}, {"child-src *; script-src 'none'", []int{1}}, {"worker-src *; child-src 'none'", []int{7}}, {none + "; connect-src 'self'", []int{1, 2, 3, 4, 6, 7, 8, 9, 10}}, {none + "; connect-src " + there, all},
	} {
		for _, dest := range all {
			f := with(own(here+"/"), func(f *api.Fetch) { f.Request.Dest = dest })
			stops := slices.Contains(c.stops, dest)
			checkPolicies(t, f, !stops, c.policy)
			checkPolicies(t, f, !stops, "", "x", "default-src *", c.policy)
			checkPolicies(t, f, true, "", "", "", "", c.policy)
		}
	}
}

// TestPoliciesByNonce has what a nonce lets.
func TestPoliciesByNonce(t *testing.T) {
	policy := "default-src 'nonce-n' 'nonce-M='; img-src 'nonce-n'"
	for dest := 1; dest <= 10; dest++ {
		for _, nonce := range []string{"n", "M=", "", "N", "m=", "nn", "x", "'nonce-n'", "n M=", " n", "\xFF", strings.Repeat("n", 512)} {
			f := with(crossing(there+"/"), func(f *api.Fetch) { f.Request.Dest, f.Request.Nonce = dest, nonce })
			has := dest <= 2 && (nonce == "n" || nonce == "M=")
			checkPolicies(t, f, has, policy)
			checkPolicies(t, f, true, "default-src 'nonce-n' "+there, "default-src 'nonce-M=' http:")
			checkPolicies(t, f, has && nonce == "n", policy, "script-src 'nonce-n'; style-src 'nonce-n' "+here)
			checkPolicies(t, with(f, func(f *api.Fetch) { f.Hops = 1 }), has, policy)
		}
	}
}

// TestPoliciesByHops has policies whose paths do not count behind a redirect.
func TestPoliciesByHops(t *testing.T) {
	for _, c := range []struct {
		policy        string
		first, behind bool
	}{
		{"connect-src " + here + "/x", true, true}, {"connect-src " + here + "/y", false, true}, {"connect-src " + here + "/x/", false, true}, {"connect-src " + here + "/X", false, true}, {"connect-src " + here + "/", true, true}, {"connect-src " + here, true, true},
		{"connect-src 'self'", true, true}, {"connect-src a.example:*/y " + there, false, true}, {"connect-src https://a.example/y", false, false}, {"connect-src " + there + "/x", false, false}, {none, false, false}, {"connect-src *", true, true}, {"default-src *.example:8443/y/", false, true},
	} {
		for _, hops := range []int{0, 1, 2, 3, 19, 20, -1, math.MinInt} {
			f := with(own(here+"/x"), func(f *api.Fetch) { f.Hops = hops })
			checkPolicies(t, f, hops <= 0 && c.first || hops > 0 && c.behind, c.policy)
			// Another policy has no path.
			checkPolicies(t, f, hops <= 0 && c.first || hops > 0 && c.behind, "connect-src *", c.policy, "default-src 'self'")
		}
	}
}

// TestPoliciesBySelf has what is relative to the config's origin.
func TestPoliciesBySelf(t *testing.T) {
	for _, c := range []struct {
		self, url, sources string
		pass               bool
	}{
		{"http://a", "http://a/", "'self'", true}, {"http://a", "https://a/", "'self'", true}, {"https://a", "http://a/", "'self'", false}, {"http://a", "http://b/", "'self'", false}, {"http://a:81", "http://a:81/", "'self'", true}, {"http://a:81", "http://a/", "'self'", false}, {"http://a:81", "https://a/", "'self'", false},
		{"null", "http://a/", "'self'", false}, {"", "http://a/", "'self'", false}, {"http://a/", "http://a/", "'self'", false}, {"HTTP://a", "http://a/", "'self'", false}, {"x", "http://x/", "'self'", false},
		{"http://a", "http://b/", "b", true}, {"http://a", "https://b/", "b", true}, {"https://a", "http://b/", "b", false}, {"https://a", "https://b/", "b", true}, {"null", "http://b/", "b", false}, {"", "https://b/", "b", false}, {"null", "http://b/", "http://b", true}, {"null", "https://b/", "http:", true}, {"null", "http://b/", "*", true},
	} {
		for _, mode := range []int{api.Cors, api.NoCors} {
			for _, hops := range []int{0, 1} {
				f := with(going("GET", c.url, mode, api.EndOpaque), func(f *api.Fetch) { f.Hops, f.From = hops, "null" })
				f.Taint = map[int]int{api.Cors: api.EndCors, api.NoCors: api.EndOpaque}[mode]
				d := config("connect-src " + c.sources)
				d.Self = c.self
				if c.pass {
					checkPasses(t, d, f, f.Taint)
				} else {
					checkStops(t, d, f, api.EndPolicy)
				}
			}
		}
	}
}

// TestPoliciesByURL has parts of the URL that do not count, and such that do.
func TestPoliciesByURL(t *testing.T) {
	for _, c := range []struct {
		url  string
		pass bool
	}{
		{here + "/x", true}, {here + "/x?y#z", true}, {"https://u:p@a.example:8443/x", true}, {"https://a.example/x", false}, {"http://a.example:8443/x", false}, {"https://b.a.example:8443/x", false}, {"https://example:8443/x", false}, {here + "/y", false}, {here + "/", false}, {here + "/x/", false}, {"https://a.example:8443@b/x", false}, {"https://b/?" + here + "/x", false},
	} {
		checkPolicies(t, crossing(c.url), c.pass, "connect-src "+here+"/x")
	}
}

// gates holds what becomes of a fetch to the origin of the config and to another
// one, written out: 0 for the taint that it gets beside the end.
var gates = []struct {
	mode, redirect, taint int
	own, other            int // the end
	ownTaint, otherTaint  int
}{
	{api.SameOrigin, api.Follow, api.EndBasic, 0, api.EndOrigin, api.EndBasic, 0},
	{api.SameOrigin, api.Stop, api.EndBasic, 0, api.EndOrigin, api.EndBasic, 0},
	{api.SameOrigin, api.Manual, api.EndBasic, 0, api.EndOrigin, api.EndBasic, 0},
	{api.SameOrigin, api.Follow, api.EndCors, api.EndOrigin, api.EndOrigin, 0, 0},
	{api.SameOrigin, api.Stop, api.EndOpaque, api.EndOrigin, api.EndOrigin, 0, 0},
	{api.NoCors, api.Follow, api.EndBasic, 0, 0, api.EndBasic, api.EndOpaque},
	{api.NoCors, api.Stop, api.EndBasic, 0, api.EndRedirect, api.EndBasic, 0},
	{api.NoCors, api.Manual, api.EndBasic, 0, api.EndRedirect, api.EndBasic, 0},
	{api.NoCors, api.Follow, api.EndOpaque, 0, 0, api.EndOpaque, api.EndOpaque},
	{api.NoCors, api.Stop, api.EndOpaque, api.EndRedirect, api.EndRedirect, 0, 0},
	{api.NoCors, api.Manual, api.EndOpaque, api.EndRedirect, api.EndRedirect, 0, 0},
	{api.NoCors, api.Follow, api.EndCors, 0, 0, api.EndOpaque, api.EndOpaque},
	{api.NoCors, api.Manual, api.EndCors, api.EndRedirect, api.EndRedirect, 0, 0},
	{api.Cors, api.Follow, api.EndBasic, 0, 0, api.EndBasic, api.EndCors},
	{api.Cors, api.Stop, api.EndBasic, 0, 0, api.EndBasic, api.EndCors},
	{api.Cors, api.Manual, api.EndBasic, 0, 0, api.EndBasic, api.EndCors},
	{api.Cors, api.Follow, api.EndCors, 0, 0, api.EndCors, api.EndCors},
	{api.Cors, api.Stop, api.EndCors, 0, 0, api.EndCors, api.EndCors},
	{api.Cors, api.Manual, api.EndCors, 0, 0, api.EndCors, api.EndCors},
	{api.Cors, api.Follow, api.EndOpaque, 0, 0, api.EndCors, api.EndCors},
}

// checkTaint checks that a fetch ends, or passes with a taint.
func checkTaint(t *testing.T, c api.Config, f api.Fetch, end, taint int) {
	t.Helper()
	if end != 0 {
		checkStops(t, c, f, end)
	} else {
		checkPasses(t, c, f, taint)
	}
}

func TestGates(t *testing.T) {
	for _, g := range gates {
		for _, method := range []string{"GET", "POST", "HEAD"} {
			for _, cred := range []int{api.Omit, api.OwnOnly, api.Include} {
				for _, hops := range []int{0, 1, 20} {
					for _, lost := range []bool{false, true} {
						f := with(going(method, here+"/x?y", g.mode, g.taint), func(f *api.Fetch) {
							f.Request.Redirect, f.Request.Cred, f.Hops, f.Lost = g.redirect, cred, hops, lost
						})
						other := with(f, func(f *api.Fetch) { f.Request.URL = there + "/" })
						for _, policies := range [][]string{nil, {"connect-src *"}, {"img-src 'none'", "", "x"}} {
							checkTaint(t, config(policies...), f, g.own, g.ownTaint)
							checkTaint(t, config(policies...), other, g.other, g.otherTaint)
						}
						// A policy comes before all other ends.
						for _, policies := range [][]string{{none}, {"", "connect-src", ""}} {
							checkStops(t, config(policies...), f, api.EndPolicy)
							checkStops(t, config(policies...), other, api.EndPolicy)
						}
					}
				}
			}
		}
	}
}

// TestGateOrigins has URLs of the origin of the config and of others.
func TestGateOrigins(t *testing.T) {
	for _, c := range []struct {
		self, url string
		own       bool
	}{
		{"http://a", "http://a/", true}, {"http://a", "http://a/x?y#z", true}, {"http://a", "http://u:p@a/", true}, {"https://a", "https://a/", true}, {"http://a:81", "http://a:81/", true}, {"http://a:443", "http://a:443/", true}, {"https://a:80", "https://a:80/x", true}, {"http://a.b", "http://a.b/", true}, {here, here + "/", true},
		{"http://a", "https://a/", false}, {"https://a", "http://a/", false}, {"http://a", "http://b/", false}, {"http://a", "http://a.a/", false}, {"http://a.b", "http://b/", false}, {"http://b", "http://a.b/", false}, {"http://a", "http://a:81/", false}, {"http://a:81", "http://a/", false}, {"http://a:81", "http://a:82/", false}, {"http://a:443", "https://a/", false}, {"https://a:80", "http://a/", false}, {"http://a", "http://b/http://a/", false}, {"http://a", "http://a@b/", false}, {"http://a", "http://aa/", false}, {"http://aa", "http://a/", false},
		{"null", "http://a/", false}, {"", "http://a/", false}, {"x", "http://x/", false}, {"http://a/", "http://a/", false}, {"http://a:80", "http://a/", false}, {"HTTP://a", "http://a/", false}, {"http://A", "http://a/", false}, {" http://a", "http://a/", false}, {"null", "http://null/", false}, {"a", "http://a/", false}, {"\xFF", "https://a/", false},
	} {
		for _, g := range gates {
			f := with(going("GET", c.url, g.mode, g.taint), func(f *api.Fetch) {
				// From does not count, but that of the config does.
				f.Request.Redirect, f.From = g.redirect, "null"
			})
			d := config()
			d.Self = c.self
			if c.own {
				checkTaint(t, d, f, g.own, g.ownTaint)
			} else {
				checkTaint(t, d, f, g.other, g.otherTaint)
			}
		}
	}
}

// TestGateFields has values in all fields that nothing depends on.
func TestGateFields(t *testing.T) {
	for _, text := range []string{"", "x", "\x00\xFF", "null", strings.Repeat("x", 9999)} {
		for _, hops := range []int{0, 1, 20, math.MaxInt} {
			for _, list := range [][]api.Header{nil, {}, make([]api.Header, 0, 5), lines("X-A: 1"), named("Origin", "Accept", "Authorization", "x", "X"), make([]api.Header, 25)} {
				f := api.Fetch{
					Request: api.Request{Method: text, URL: there + "/", Mode: api.Cors, Cred: len(text) % 4, Redirect: hops % 4, Dest: hops % 11, Nonce: text, Headers: list, Body: text},
					From:    here, Hops: hops, Taint: api.EndBasic, Lost: hops == 1,
				}
				checkPasses(t, config("default-src http:"), f, api.EndCors)
				f.Request.URL = here + "/x#y"
				checkPasses(t, config("default-src https://*.example:8443"), f, api.EndBasic)
			}
		}
	}
	c := config()
	for _, n := range []int{0, -1, 1, 64, math.MaxInt, math.MinInt} {
		c.Memo = n
		checkPasses(t, c, crossing(there+"/"), api.EndCors)
	}
}

// TestGateBehindBegin has fetches as they begin.
func TestGateBehindBegin(t *testing.T) {
	for _, g := range gates {
		if g.taint != api.EndBasic {
			continue
		}
		for i, url := range []string{"HTTPS://A.EXAMPLE:8443", "HTTP://B.EXAMPLE:80"} {
			c := config("default-src http: https:")
			r := withRequest(request("post", url, g.mode), func(r *api.Request) { r.Redirect = g.redirect })
			f, end := Begin(c, r)
			if end != 0 {
				t.Fatalf("Begin(%s) ends with %d", show(r), end)
			}
			checkTaint(t, c, f, []int{g.own, g.other}[i], []int{g.ownTaint, g.otherTaint}[i])
		}
	}
}

// TestGateUnspecified has fetches that no function returns, for which nothing is
// specified but that the call ends.
func TestGateUnspecified(t *testing.T) {
	for _, n := range extremes {
		for _, text := range []string{"", "x", "http://", "\xFF", there, strings.Repeat("x", 9999)} {
			for _, policy := range []string{"", none, "default-src 'self' a:* *.b/c https:"} {
				f := api.Fetch{Request: api.Request{URL: text, Mode: n, Redirect: n, Dest: n, Headers: lines("a b: c")}, From: text, Hops: n, Taint: n}
				check := lendHeaders(t, &f.Request.Headers, true)
				Gate(config(policy), f)
				Gate(api.Config{Self: text, Policies: []string{text, policy}}, f)
				check()
			}
		}
	}
	Gate(api.Config{}, api.Fetch{})
}
