package monitor

import (
	"fmt"
	"slices"
	"testing"

	"pursuivant/api"
)

const elsewhere = "http://c.example:81"

// preflightFor returns the preflight from here for a request without unsafe headers.
func preflightFor(method, url string, n uint64) api.Event {
	return evAsk(url, n, "Accept: */*", "Access-Control-Request-Method: "+method, "Origin: "+here)
}

// crossing returns a request from here to another origin without credentials.
func crossing(method, url string, n uint64, texts ...string) api.Event {
	return evSend(method, url, "body", false, n, append(texts, "Origin: "+here)...)
}

// TestPreflight has all fields of a preflight, of what follows it, and of what is
// not asked again.
func TestPreflight(t *testing.T) {
	const url = "http://u:p@b.example:81/x/../y?q#f"
	r := asked("put", "HTTP://u:p@B.example:81/x/../y?q#f", "X-B: 1", "Authorization: a", "Accept: b", "x-a: 2", "Cookie: c", "X-A: 3")
	r.Cred = api.Include
	allowed := let(299, "Access-Control-Allow-Methods: DELETE, PUT", "Access-Control-Allow-Headers: X-A,x-b, AUTHORIZATION", "Access-Control-Max-Age: 60")
	send := evSend("PUT", url, "body", true, 1<<63, "X-B: 1", "Authorization: a", "Accept: b", "x-a: 2", "X-A: 3", "Origin: "+here)
	w := open(t, config())
	w.tick(100)
	w.draw(1<<20, 1<<63)
	w.begin(1<<20, r, evAsk(url, 1<<63, "Accept: */*", "Access-Control-Request-Method: PUT", "Access-Control-Request-Headers: authorization,x-a,x-b", "Origin: "+here))
	w.tick(1)
	w.reply(1<<20, allowed, send)
	w.reply(1<<20, let(404), evEnd(2, 404))
	w.tick(59)
	w.begin(1<<20, r, send)
	w.reply(1<<20, let(500), evEnd(2, 500))
	w.tick(1)
	w.begin(1<<20, r, evAsk(url, 1<<63, "Accept: */*", "Access-Control-Request-Method: PUT", "Access-Control-Request-Headers: authorization,x-a,x-b", "Origin: "+here))
}

// TestNotAllowed has answers to preflights that are refused.
func TestNotAllowed(t *testing.T) {
	r := asked("PUT", there, "X-A: 1")
	ask := evAsk(there+"/", 0, "Accept: */*", "Access-Control-Request-Method: PUT", "Access-Control-Request-Headers: x-a", "Origin: "+here)
	methods, names := "Access-Control-Allow-Methods: PUT", "Access-Control-Allow-Headers: x-a"
	w := open(t, config())
	for _, x := range []api.Response{
		got(200), got(200, methods, names), let(100, methods, names), let(199, methods, names), let(300, methods, names), let(404, methods, names), let(599, methods, names), let(200, methods), let(200, names), let(200, methods, names, "Access-Control-Allow-Headers: a b"),
		let(200, "Access-Control-Allow-Methods: put", names), let(200, "Access-Control-Allow-Methods: P UT", names), got(200, "Access-Control-Allow-Origin: http://a.example", methods, names), got(200, "Access-Control-Allow-Origin: null", methods, names),
		// A preflight is not redirected.
		let(302, methods, names, "Location: "+here), let(307, methods, names, "Location: /x"),
	} {
		w.begin(1, r, ask)
		w.reply(1, x, evEnd(11, 0))
		w.refuse(answer(1, x), api.ErrState)
	}
	w.begin(1, with(r, func(r *api.Request) { r.Cred = api.Include }), ask)
	w.reply(1, let(200, "Access-Control-Allow-Methods: *", "Access-Control-Allow-Headers: *"), evEnd(11, 0))
	// What was allowed before is forgotten behind an answer that is refused, for
	// that URL.
	w.begin(1, asked("PUT", there), preflightFor("PUT", there+"/", 0))
	w.reply(1, let(200, methods, "Access-Control-Max-Age: 100"), crossing("PUT", there+"/", 0))
	w.fail(1)
	w.begin(1, asked("PUT", there+"/x"), preflightFor("PUT", there+"/x", 0))
	w.reply(1, let(200, methods, "Access-Control-Max-Age: 100"), crossing("PUT", there+"/x", 0))
	w.fail(1)
	w.begin(1, asked("PUT", there), crossing("PUT", there+"/", 0))
	w.fail(1)
	w.begin(1, r, ask)
	w.reply(1, let(200, methods), evEnd(11, 0))
	w.begin(1, asked("PUT", there+"/x"), crossing("PUT", there+"/x", 0))
	w.fail(1)
	w.begin(1, asked("PUT", there), preflightFor("PUT", there+"/", 0))
}

// TestNotAskedAgain has answers that let the request be sent, though the cache
// does not have what it needs.
func TestNotAskedAgain(t *testing.T) {
	r := asked("PUT", there, "X-A: 1", "X-B: 1")
	ask := evAsk(there+"/", 0, "Accept: */*", "Access-Control-Request-Method: PUT", "Access-Control-Request-Headers: x-a,x-b", "Origin: "+here)
	for most, texts := range map[int][]string{
		1: {"Access-Control-Allow-Methods: PUT", "Access-Control-Allow-Headers: x-a, x-b", "Access-Control-Max-Age: 100"},
		2: {"Access-Control-Allow-Methods: PUT", "Access-Control-Allow-Headers: x-a, x-b, x-c", "Access-Control-Max-Age: 100"},
		4: {"Access-Control-Allow-Methods: PUT", "Access-Control-Allow-Headers: x-a, x-b", "Access-Control-Max-Age: 0"},
	} {
		c := config()
		c.Memo = most
		w := open(t, c)
		for range 3 {
			w.begin(1, r, ask)
			w.reply(1, let(200, texts...), crossing("PUT", there+"/", 0, "X-A: 1", "X-B: 1"))
			// What comes next is the answer to the request.
			w.reply(1, let(302, append(texts, "Location: "+there)...), ask)
			w.reply(1, let(200, texts...), crossing("PUT", there+"/", 0, "X-A: 1", "X-B: 1"))
			w.reply(1, let(204), evEnd(2, 204))
		}
	}
}

// TestExpiry has allowances that hold from the answer on, not from the question.
func TestExpiry(t *testing.T) {
	for _, age := range []uint64{0, 1, 5, 86400} {
		w := open(t, config())
		w.tick(1000)
		w.begin(1, asked("PUT", there), preflightFor("PUT", there+"/", 0))
		w.tick(50)
		w.reply(1, let(200, "Access-Control-Allow-Methods: PUT", fmt.Sprint("Access-Control-Max-Age: ", age)), crossing("PUT", there+"/", 0))
		w.tick(7)
		w.reply(1, let(200), evEnd(2, 200))
		if age > 7 {
			w.tick(age - 8)
			w.begin(1, asked("PUT", there), crossing("PUT", there+"/", 0))
			// It expires while the fetch is in progress.
			w.tick(1)
			w.reply(1, let(307, "Location: "+there), preflightFor("PUT", there+"/", 0))
			w.fail(1)
		}
		w.begin(1, asked("PUT", there), preflightFor("PUT", there+"/", 0))
		w.begin(2, asked("PUT", there), preflightFor("PUT", there+"/", 0))
	}
	// At the greatest time, too.
	w := open(t, config())
	w.tick(1 << 40)
	w.begin(1, asked("PUT", there), preflightFor("PUT", there+"/", 0))
	w.reply(1, let(200, "Access-Control-Allow-Methods: PUT", "Access-Control-Max-Age: 86400"), crossing("PUT", there+"/", 0))
	w.fail(1)
	w.begin(1, asked("PUT", there), crossing("PUT", there+"/", 0))
}

// TestEnds has answers that end a fetch. Only one that may be read has a Status
// in EvEnd.
func TestEnds(t *testing.T) {
	const moved = "https://a.example:8443/moved"
	for _, c := range []struct {
		url    string
		change func(r *api.Request)
		sent   api.Event
		x      api.Response
		want   api.Event
	}{
		{here, nil, evSend("GET", here+"/", "body", true, 0), got(200), evEnd(1, 200)},
		{here, nil, evSend("GET", here+"/", "body", true, 0), got(100), evEnd(1, 100)},
		{here, nil, evSend("GET", here+"/", "body", true, 0), got(599, "Location: /x"), evEnd(1, 599)},
		{here, nil, evSend("GET", here+"/", "body", true, 0), got(302), evEnd(1, 302)},
		{here, func(r *api.Request) { r.Redirect = api.Stop }, evSend("GET", here+"/", "body", true, 0), got(304, "Location: /x"), evEnd(1, 304)},
		{here, func(r *api.Request) { r.Mode, r.Redirect = api.SameOrigin, api.Manual }, evSend("GET", here+"/", "body", true, 0), got(404), evEnd(1, 404)},
		{there, nil, crossing("GET", there+"/", 0), let(200), evEnd(2, 200)},
		{there, nil, crossing("GET", there+"/", 0), got(599, "Access-Control-Allow-Origin: *"), evEnd(2, 599)},
		{there, nil, crossing("GET", there+"/", 0), let(303), evEnd(2, 303)},
		{there, func(r *api.Request) { r.Mode = api.NoCors }, evSend("GET", there+"/", "body", false, 0), got(200), evEnd(3, 0)},
		{there, func(r *api.Request) { r.Mode = api.NoCors }, evSend("GET", there+"/", "body", false, 0), let(404), evEnd(3, 0)},
		{here, func(r *api.Request) { r.Redirect = api.Manual }, evSend("GET", here+"/", "body", true, 0), got(301, "Location: /x"), evEnd(4, 0)},
		{there, func(r *api.Request) { r.Redirect = api.Manual }, crossing("GET", there+"/", 0), let(301, "Location: /x"), evEnd(4, 0)},
		{here, nil, evSend("GET", here+"/", "body", true, 0), got(307, "Location: x:y"), evEnd(5, 0)},
		{here, nil, evSend("GET", here+"/", "body", true, 0), got(307, "Location: /a b"), evEnd(5, 0)},
		{here, nil, evSend("GET", here+"/", "body", true, 0), got(308, "Location: "+there), evEnd(8, 0)},
		{there, nil, crossing("GET", there+"/", 0), let(308, "Location: "+elsewhere), evEnd(8, 0)},
		{here, func(r *api.Request) { r.Mode, r.Dest = api.SameOrigin, api.DestImage }, evSend("GET", here+"/", "body", true, 0), got(308, "Location: "+there), evEnd(9, 0)},
		{there, nil, crossing("GET", there+"/", 0), got(200), evEnd(10, 0)},
		{there, nil, crossing("GET", there+"/", 0), got(302, "Location: "+here), evEnd(10, 0)},
		{there, func(r *api.Request) { r.Cred = api.Include }, evSend("GET", there+"/", "body", true, 0, "Origin: "+here), got(200, "Access-Control-Allow-Origin: *"), evEnd(10, 0)},
		{here, func(r *api.Request) { r.Redirect = api.Stop }, evSend("GET", here+"/", "body", true, 0), got(301, "Location: /x"), evEnd(12, 0)},
		{there, func(r *api.Request) { r.Redirect = api.Stop }, crossing("GET", there+"/", 0), let(301, "Location: /x"), evEnd(12, 0)},
		{there, nil, crossing("GET", there+"/", 0), let(302, "Location: http://u@b.example"), evEnd(14, 0)},
		{here, nil, evSend("GET", here+"/", "body", true, 0), got(302, "Location: http://u@b.example"), evEnd(14, 0)},
	} {
		w := open(t, config("connect-src *"))
		if c.want.Code == api.EndPolicy {
			w = open(t, config("connect-src "+c.url))
		}
		for range 2 {
			r := asked("GET", c.url)
			if c.change != nil {
				c.change(&r)
			}
			w.begin(1, r, c.sent)
			w.reply(1, c.x, c.want)
			w.refuse(answer(1, c.x), api.ErrState)
		}
	}
}

// TestRedirects has answers that lead on, and what is then sent.
func TestRedirects(t *testing.T) {
	list := []string{"Authorization: x", "Content-Type: text/plain", "Content-Language: en", "Accept: a"}
	post := asked("POST", here+"/p#f", list...)
	get := []string{"Authorization: x", "Accept: a"}
	sent := func(w *world) {
		w.t.Helper()
		w.draw(1, 3)
		w.begin(1, post, evSend("POST", here+"/p#f", "body", true, 3, append(slices.Clone(list), "Origin: "+here)...))
	}
	for _, status := range []int{301, 302, 303} {
		w := open(t, config())
		sent(w)
		w.reply(1, got(status, "Location: x"), evSend("GET", here+"/x#f", "", true, 3, get...))
		w.reply(1, got(status, "Location: y#g"), evSend("GET", here+"/y#g", "", true, 3, get...))
		w.reply(1, got(status, "Location: "+there+"/z"), evSend("GET", there+"/z#g", "", false, 3, "Accept: a", "Origin: "+here))
		w.reply(1, let(status, "Location: //b.example/z2"), evSend("GET", there+"/z2#g", "", false, 3, "Accept: a", "Origin: "+here))
		w.reply(1, let(status, "Location: "+elsewhere), evSend("GET", elsewhere+"/#g", "", false, 3, "Accept: a", "Origin: null"))
		w.reply(1, got(status, "Access-Control-Allow-Origin: null", "Location: "+here), evSend("GET", here+"/#g", "", false, 3, "Accept: a", "Origin: null"))
		w.reply(1, let(200), evEnd(10, 0))
		sent(w)
		w.reply(1, got(200), evEnd(1, 200))
	}
	for _, status := range []int{307, 308} {
		w := open(t, config())
		sent(w)
		w.reply(1, got(status, "Location: ?q"), evSend("POST", here+"/p?q#f", "body", true, 3, append(slices.Clone(list), "Origin: "+here)...))
		w.reply(1, got(status, "Location: "+there), evSend("POST", there+"/#f", "body", false, 3, "Content-Type: text/plain", "Content-Language: en", "Accept: a", "Origin: "+here))
		w.reply(1, let(status, "Location: "+elsewhere), evSend("POST", elsewhere+"/#f", "body", false, 3, "Content-Type: text/plain", "Content-Language: en", "Accept: a", "Origin: null"))
		w.reply(1, got(200, "Access-Control-Allow-Origin: null"), evEnd(2, 200))
	}
	// In mode NoCors, nothing is asked, and nothing is learned.
	w := open(t, config())
	w.begin(1, with(asked("POST", here), func(r *api.Request) { r.Mode, r.Cred = api.NoCors, api.Include }), evSend("POST", here+"/", "body", true, 0, "Origin: "+here))
	w.reply(1, got(307, "Location: "+there), evSend("POST", there+"/", "body", true, 0, "Origin: "+here))
	w.reply(1, got(307, "Location: "+elsewhere), evSend("POST", elsewhere+"/", "body", true, 0, "Origin: null"))
	w.reply(1, got(303, "Location: "+here), evSend("GET", here+"/", "", true, 0))
	w.reply(1, got(200), evEnd(3, 0))
}

// TestPreflightBehindRedirect has preflights for where a fetch was redirected to.
func TestPreflightBehindRedirect(t *testing.T) {
	w := open(t, config())
	w.draw(1, 4)
	ask := func(url, from string) api.Event {
		return evAsk(url, 4, "Accept: */*", "Access-Control-Request-Method: PUT", "Access-Control-Request-Headers: x-a", "Origin: "+from)
	}
	r := asked("PUT", here, "X-A: 1", "Authorization: x")
	w.begin(1, r, evSend("PUT", here+"/", "body", true, 4, "X-A: 1", "Authorization: x", "Origin: "+here))
	w.reply(1, got(302, "Location: "+there), ask(there+"/", here))
	w.reply(1, let(204, "Access-Control-Allow-Methods: PUT", "Access-Control-Allow-Headers: X-A", "Access-Control-Max-Age: 9"), evSend("PUT", there+"/", "body", false, 4, "X-A: 1", "Origin: "+here))
	w.reply(1, let(307, "Location: "+elsewhere), ask(elsewhere+"/", "null"))
	w.reply(1, got(204, "Access-Control-Allow-Origin: null", "Access-Control-Allow-Methods: PUT", "Access-Control-Allow-Headers: *", "Access-Control-Max-Age: 9"), evSend("PUT", elsewhere+"/", "body", false, 4, "X-A: 1", "Origin: null"))
	w.reply(1, got(307, "Access-Control-Allow-Origin: *", "Location: "+here), ask(here+"/", "null"))
	w.reply(1, let(204, "Access-Control-Allow-Methods: PUT", "Access-Control-Allow-Headers: X-A"), evEnd(11, 0))
	// A second fetch need not ask where the first one did.
	w.begin(1, r, evSend("PUT", here+"/", "body", true, 4, "X-A: 1", "Authorization: x", "Origin: "+here))
	w.reply(1, got(302, "Location: "+there), evSend("PUT", there+"/", "body", false, 4, "X-A: 1", "Origin: "+here))
	w.reply(1, let(307, "Location: "+elsewhere), evSend("PUT", elsewhere+"/", "body", false, 4, "X-A: 1", "Origin: null"))
	w.reply(1, got(303, "Access-Control-Allow-Origin: *", "Location: /get"), evAsk(elsewhere+"/get", 4, "Accept: */*", "Access-Control-Request-Method: GET", "Access-Control-Request-Headers: x-a", "Origin: null"))
	w.reply(1, got(204, "Access-Control-Allow-Origin: *", "Access-Control-Allow-Headers: X-A"), evSend("GET", elsewhere+"/get", "", false, 4, "X-A: 1", "Origin: null"))
	w.reply(1, got(200, "Access-Control-Allow-Origin: *"), evEnd(2, 200))
	// From here itself, what null was allowed does not count.
	w.begin(1, asked("PUT", elsewhere, "X-A: 1"), ask(elsewhere+"/", here))
}

// TestPoliciesBehindRedirect asks the policies again, which then do not count the
// path.
func TestPoliciesBehindRedirect(t *testing.T) {
	w := open(t, config("connect-src 'self' http://b.example/x", "", "connect-src *"))
	own := evSend("GET", here+"/", "body", true, 0)
	w.begin(1, asked("GET", there+"/y"), evEnd(8, 0))
	w.begin(1, asked("GET", elsewhere), evEnd(8, 0))
	w.begin(1, asked("GET", there+"/x"), crossing("GET", there+"/x", 0))
	w.reply(1, let(302, "Location: /y"), crossing("GET", there+"/y", 0))
	w.reply(1, let(302, "Location: "+elsewhere), evEnd(8, 0))
	w.begin(1, asked("GET", here), own)
	w.reply(1, got(302, "Location: "+there+"/z"), crossing("GET", there+"/z", 0))
	w.reply(1, let(302, "Location: "+there+":81/x"), evEnd(8, 0))
	// Nothing is asked of an origin that the policies do not let the fetch go to.
	w.begin(1, asked("PUT", here), evSend("PUT", here+"/", "body", true, 0, "Origin: "+here))
	w.reply(1, got(307, "Location: "+elsewhere), evEnd(8, 0))
	w.begin(1, asked("PUT", elsewhere), evEnd(8, 0))
	w.begin(1, asked("PUT", there+"/y"), evEnd(8, 0))
	w.begin(1, asked("PUT", there+"/x"), preflightFor("PUT", there+"/x", 0))
	w.reply(1, let(200, "Access-Control-Allow-Methods: PUT"), crossing("PUT", there+"/x", 0))
	w.reply(1, let(307, "Location: /y"), preflightFor("PUT", there+"/y", 0))
	w.reply(1, let(200, "Access-Control-Allow-Methods: PUT"), crossing("PUT", there+"/y", 0))
	w.reply(1, let(200), evEnd(2, 200))
}

// TestManyHops has fetches that are redirected as often as they may be, and once
// more; preflights do not count.
func TestManyHops(t *testing.T) {
	for hops := 18; hops <= 22; hops++ {
		w := open(t, config())
		for range 2 {
			w.begin(1, asked("GET", here), evSend("GET", here+"/", "body", true, 0))
			w.begin(2, asked("PUT", there), preflightFor("PUT", there+"/", 0))
			w.reply(2, let(200, "Access-Control-Allow-Methods: PUT", "Access-Control-Max-Age: 0"), crossing("PUT", there+"/", 0))
			for n := range min(hops, 20) {
				path := fmt.Sprint("/", n)
				w.reply(1, got(302, "Location: "+path), evSend("GET", here+path, "body", true, 0))
				w.reply(2, let(307, "Location: "+path), preflightFor("PUT", there+path, 0))
				w.reply(2, let(200, "Access-Control-Allow-Methods: PUT", "Access-Control-Max-Age: 0"), crossing("PUT", there+path, 0))
			}
			if hops <= 20 {
				w.reply(1, got(200), evEnd(1, 200))
				w.reply(2, let(200), evEnd(2, 200))
				continue
			}
			w.reply(1, got(302, "Location: /"), evEnd(13, 0))
			w.reply(2, let(307, "Location: /"), evEnd(13, 0))
		}
	}
}
