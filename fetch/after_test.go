package fetch

import (
	"math"
	"slices"
	"strings"
	"testing"

	"pursuivant/api"
)

// leading holds all statuses that lead on.
var leading = []int{301, 302, 303, 307, 308}

// staying holds statuses that do not.
var staying = []int{100, 199, 200, 201, 204, 206, 299, 300, 304, 305, 306, 309, 400, 404, 500, 599}

// answer returns a response with the headers, of a status.
func answer(status int, texts ...string) api.Response {
	return api.Response{Status: status, Headers: lines(texts...), Body: "body"}
}

// let returns a response with the headers which here may read, with each mode of
// credentials.
func let(status int, texts ...string) api.Response {
	return answer(status, append([]string{"Access-Control-Allow-Origin: " + here, "Access-Control-Allow-Credentials: true"}, texts...)...)
}

// checkOver checks a fetch that ends.
func checkOver(t *testing.T, f api.Fetch, x api.Response, end int) {
	t.Helper()
	checkAfter(t, f, x, api.Fetch{}, end)
}

// checkGoesOn checks a fetch that goes on to a URL, and nothing else of which
// changes.
func checkGoesOn(t *testing.T, f api.Fetch, x api.Response, url string) {
	t.Helper()
	checkAfter(t, f, x, with(f, func(f *api.Fetch) {
		f.Hops++
		f.Request.URL = url
	}), 0)
}

// asking returns a fetch there, with a taint and a mode of credentials.
func asking(taint, cred int) api.Fetch {
	return with(going("PATCH", there+"/x", api.Cors, taint), func(f *api.Fetch) { f.Request.Cred = cred })
}

// TestCheck has responses that may be read or not, with each mode of credentials.
func TestCheck(t *testing.T) {
	for _, c := range []struct {
		allow, credentials string
		plain, include     bool // whether it may be read
	}{
		{"*", "", true, false}, {"*", "true", true, false}, {here, "true", true, true}, {here, "", true, false}, {here, "True", true, false}, {here, "false", true, false}, {here, "true, true", true, false},
		{"", "", false, false}, {"", "true", false, false}, {"null", "true", false, false}, {there, "true", false, false}, {here + "/", "true", false, false}, {strings.ToUpper(here), "true", false, false}, {here + ", " + here, "true", false, false}, {"*, " + here, "true", false, false}, {"https://a.example", "true", false, false}, {"**", "true", false, false}, {"none", "true", false, false},
	} {
		var texts []string
		if c.allow != "" {
			texts = append(texts, "access-control-allow-ORIGIN: "+c.allow)
		}
		if c.credentials != "" {
			texts = append(texts, "Access-Control-Allow-Credentials: "+c.credentials)
		}
		texts = append(texts, "Location: /y", "X-A: 1")
		for _, cred := range creds {
			for _, taint := range taints {
				readable := taint != api.EndCors || c.plain && cred != api.Include || c.include
				f := asking(taint, cred)
				for _, status := range slices.Concat(staying, leading) {
					x := answer(status, texts...)
					switch {
					case !readable:
						checkOver(t, f, x, api.EndCheck)
					case slices.Contains(staying, status):
						checkOver(t, f, x, taint)
					case status != 303:
						checkGoesOn(t, f, x, there+"/y")
					}
				}
			}
		}
	}
	// There need not be any headers.
	for _, list := range [][]api.Header{nil, {}, make([]api.Header, 0, 9), make([]api.Header, 2)} {
		for _, cred := range creds {
			x := api.Response{Status: 200, Headers: list}
			checkOver(t, asking(api.EndCors, cred), x, api.EndCheck)
			checkOver(t, asking(api.EndBasic, cred), x, api.EndBasic)
			checkOver(t, asking(api.EndOpaque, cred), x, api.EndOpaque)
		}
	}
	checkOver(t, asking(api.EndCors, api.Omit), answer(200, "Access-Control-Allow-Origin: *", "Access-Control-Allow-Origin: *"), api.EndCheck)
}

// TestCheckFrom has origins that the response must name.
func TestCheckFrom(t *testing.T) {
	for _, c := range []struct {
		from string
		lost bool
		sent string
	}{{here, false, here}, {here, true, "null"}, {"null", false, "null"}, {"null", true, "null"}, {"http://c", false, "http://c"}, {"http://c", true, "null"}} {
		for _, cred := range creds {
			for _, allow := range []string{here, "null", "http://c", "*", "NULL", "", there} {
				f := with(asking(api.EndCors, cred), func(f *api.Fetch) { f.From, f.Lost = c.from, c.lost })
				x := answer(200, "Access-Control-Allow-Origin: "+allow, "Access-Control-Allow-Credentials: true")
				end := api.EndCheck
				if allow == c.sent || allow == "*" && cred != api.Include {
					end = api.EndCors
				}
				checkOver(t, f, x, end)
				f.Request.Redirect = api.Manual
				f.Taint = api.EndOpaque
				checkOver(t, f, x, api.EndOpaque)
			}
		}
	}
}

// TestAfter has each taint and each mode of redirects, written out.
func TestAfter(t *testing.T) {
	for _, taint := range taints {
		for _, mode := range modes {
			for _, cred := range creds {
				f := with(asking(taint, cred), func(f *api.Fetch) { f.Request.Mode = mode })
				for _, c := range []struct{ redirect, end int }{{api.Follow, 0}, {api.Stop, api.EndRedirect}, {api.Manual, api.EndManual}} {
					f.Request.Redirect = c.redirect
					for _, status := range staying {
						checkOver(t, f, let(status, "Location: /y"), taint)
						checkOver(t, f, let(status), taint)
					}
					for _, status := range leading {
						checkOver(t, f, let(status), taint)
						checkOver(t, f, let(status, "Content-Location: /y", "X: Location", "Refresh: 0"), taint)
						for _, name := range []string{"Location", "location", "LOCATION", "lOcation"} {
							switch {
							case c.end != 0:
								checkOver(t, f, let(status, name+": /y"), c.end)
								checkOver(t, f, let(status, name+": "), c.end)
								checkOver(t, f, let(status, name+": x:y"), c.end)
								checkOver(t, f, let(status, "X: y", name+": /y", name+": /y"), c.end)
							case status != 303:
								checkGoesOn(t, f, let(status, name+": /y"), there+"/y")
								checkGoesOn(t, f, let(status, name+": "), there+"/x")
								checkGoesOn(t, f, let(status, "X: y", name+": /y?z#a"), there+"/y?z#a")
							}
						}
					}
				}
			}
		}
	}
}

// TestNext has what changes in a fetch that goes on.
func TestNext(t *testing.T) {
	headers := lines("X-A: 1", "Content-Type: a/b", "Authorization: c", "Accept: d")
	for _, taint := range taints {
		f := with(going("POST", there+"/x#f", api.Cors, taint), func(f *api.Fetch) { f.Request.Headers = headers })
		stay := with(f, func(f *api.Fetch) { f.Request.URL, f.Hops = there+"/y#f", 4 })
		get := with(stay, func(f *api.Fetch) {
			f.Request.Method, f.Request.Body, f.Request.Headers = "GET", "", lines("X-A: 1", "Authorization: c", "Accept: d")
		})
		for _, status := range []int{301, 302, 303} {
			checkAfter(t, f, let(status, "Location: y"), get, 0)
		}
		for _, status := range []int{307, 308} {
			checkAfter(t, f, let(status, "Location: y"), stay, 0)
			other := with(stay, func(f *api.Fetch) {
				f.Request.URL, f.Request.Headers, f.Lost = "http://c/#f", lines("X-A: 1", "Content-Type: a/b", "Accept: d"), true
			})
			checkAfter(t, f, let(status, "Location: HTTP://C:80"), other, 0)
			// From the origin that asks, it is not lost.
			mine := with(f, func(f *api.Fetch) { f.Request.URL = here + "/#f" })
			other.Lost = false
			checkAfter(t, mine, let(status, "Location: http://c/"), other, 0)
		}
		checkAfter(t, with(f, func(f *api.Fetch) { f.Request.Method = "PUT" }), let(302, "Location: y"), with(stay, func(f *api.Fetch) { f.Request.Method = "PUT" }), 0)
	}
}

// reasons holds what ends a redirect that is followed, the first reason first.
var reasons = []struct {
	end    int
	change func(f *api.Fetch)
}{
	{api.EndURL, func(f *api.Fetch) {
		f.Request.URL = there + "/" + strings.Repeat("x", 500) + "#" + strings.Repeat("f", 500)
	}},
	{api.EndMany, func(f *api.Fetch) { f.Hops = 20 }},
	{api.EndUser, func(f *api.Fetch) { f.Request.URL = strings.Replace(f.Request.URL, "//", "//u@", 1) }},
}

// TestNextEnds has each set of the reasons, with each taint.
func TestNextEnds(t *testing.T) {
	for set := range 1 << len(reasons) {
		for _, taint := range taints {
			for _, cred := range creds {
				f := asking(taint, cred)
				end := 0
				for i, reason := range reasons {
					if set>>i&1 == 1 {
						reason.change(&f)
						if end == 0 {
							end = reason.end
						}
					}
				}
				// It is too long with the fragment of the URL only.
				to := "/" + strings.Repeat("y", 600)
				for _, status := range leading {
					x := let(status, "Location: "+to)
					if end != 0 {
						checkOver(t, f, x, end)
					} else if status != 303 {
						checkGoesOn(t, f, x, there+to)
					}
					for _, s := range []string{"x:y", "//", "http://b/\x00", "//u v@b/", " ", strings.Repeat("z", 1025)} {
						checkOver(t, f, let(status, "Location: "+s), api.EndURL)
					}
				}
			}
		}
	}
	for hops := range 30 {
		f := with(asking(api.EndCors, api.Omit), func(f *api.Fetch) { f.Hops = hops })
		if hops < 20 {
			checkGoesOn(t, f, let(307, "Location: y"), there+"/y")
		} else {
			checkOver(t, f, let(307, "Location: y"), api.EndMany)
		}
	}
}

// TestNextUsers has locations with a user, by mode and taint.
func TestNextUsers(t *testing.T) {
	for _, taint := range taints {
		for _, mode := range modes {
			f := with(asking(taint, api.Omit), func(f *api.Fetch) { f.Request.Mode = mode })
			x := let(307, "Location: http://u@b.example/y")
			if taint == api.EndCors || mode == api.Cors {
				checkOver(t, f, x, api.EndUser)
			} else {
				checkGoesOn(t, f, x, "http://u@b.example/y")
			}
			// It goes to the origin that asks.
			f.Request.URL = here + "/"
			x = let(308, "Location: https://u@a.example:8443/y")
			if taint == api.EndCors {
				checkOver(t, f, x, api.EndUser)
			} else {
				checkGoesOn(t, f, x, "https://u@a.example:8443/y")
			}
		}
	}
}

// TestOrderOfLastEnds has each two reasons for an end at once.
func TestOrderOfLastEnds(t *testing.T) {
	ends := map[int]int{api.Stop: api.EndRedirect, api.Manual: api.EndManual}
	for set := range 1 << len(reasons) {
		for _, taint := range taints {
			for _, cred := range creds {
				f := asking(taint, cred)
				for i, reason := range reasons {
					if set>>i&1 == 1 {
						reason.change(&f)
					}
				}
				for _, redirect := range []int{api.Follow, api.Stop, api.Manual} {
					f.Request.Redirect = redirect
					for _, to := range []string{"/" + strings.Repeat("y", 600), "x:y", "//u@b", ""} {
						for _, status := range leading {
							// A response that may not be read ends it in any case.
							if taint == api.EndCors {
								checkOver(t, f, answer(status, "Location: "+to), api.EndCheck)
								checkOver(t, f, answer(status, "Access-Control-Allow-Origin: "+there, "Location: "+to), api.EndCheck)
							}
							if redirect != api.Follow {
								checkOver(t, f, let(status, "Location: "+to), ends[redirect])
								if taint != api.EndCors {
									checkOver(t, f, answer(status, "Location: "+to), ends[redirect])
								}
							}
						}
						for _, status := range staying {
							checkOver(t, f, let(status, "Location: "+to), taint)
							if taint == api.EndCors {
								checkOver(t, f, answer(status, "Location: "+to), api.EndCheck)
							}
						}
					}
				}
			}
		}
	}
}

// TestAfterFields has values in all fields that nothing depends on.
func TestAfterFields(t *testing.T) {
	for _, taint := range taints {
		for i, text := range []string{"", "x", "\x00\xFF", strings.Repeat("x", 2048)} {
			for _, list := range [][]api.Header{nil, {}, make([]api.Header, 0, 5), lines("Access-Control-Allow-Origin: *", "Location: z"), named("Accept", "x", "X", "Content-Type", "Origin"), make([]api.Header, 25)} {
				f := api.Fetch{
					Request: api.Request{Method: "PUT", URL: there + "/x", Mode: api.Cors, Cred: i%3 + 1, Redirect: api.Follow, Dest: i + 1, Nonce: text, Headers: list, Body: text},
					From:    here, Hops: i, Taint: taint,
				}
				x := let(307, "X-A: 1", "Location: y", ": ")
				x.Body = text
				checkGoesOn(t, f, x, there+"/y")
				x.Status = 200
				checkOver(t, f, x, taint)
				// The headers of the request are not those of the response.
				if taint == api.EndCors {
					checkOver(t, f, answer(200, "Location: y"), api.EndCheck)
				}
				f.Request.Redirect = api.Manual
				checkOver(t, f, let(307), taint)
			}
		}
	}
	// They may be the same list.
	list := lines("Access-Control-Allow-Origin: *", "Location: http://c", "Authorization: x", "Content-Type: y")
	kept := slices.Clone(list)
	f := with(going("POST", there+"/", api.Cors, api.EndCors), func(f *api.Fetch) {})
	f.Request.Headers = list
	for _, status := range leading {
		g, end := After(f, api.Response{Status: status, Headers: list})
		if end != 0 || g.Request.URL != "http://c/" || len(g.Request.Headers) != map[bool]int{false: 2, true: 3}[status > 303] {
			t.Errorf("After returns %s, %d", show(g), end)
		}
		fill(g.Request.Headers)
		if !slices.Equal(list, kept) {
			t.Fatalf("of %s is left %s", show(kept), show(list))
		}
	}
}

// TestAfterUnspecified has fetches that no function returns, for which nothing
// is specified but that the call ends.
func TestAfterUnspecified(t *testing.T) {
	for _, n := range extremes {
		for _, text := range []string{"", "x", "http://", "\xFF", there, strings.Repeat("x", 9999)} {
			for _, status := range []int{n, 200, 301, 303, 308} {
				f := api.Fetch{Request: api.Request{Method: text, URL: text, Mode: n, Cred: n, Redirect: n, Headers: lines("a b: c")}, From: text, Hops: n, Taint: n}
				check := lendHeaders(t, &f.Request.Headers, true)
				for _, x := range []api.Response{{}, {Status: status}, let(status, "Location: "+text), let(status, "Location: "), answer(status, "Access-Control-Allow-Origin: *", "Location: /")} {
					After(f, x)
					f.Request.Redirect, f.Taint = api.Follow, api.EndCors
					After(f, x)
				}
				check()
			}
		}
	}
	After(api.Fetch{Hops: math.MinInt}, api.Response{})
}
