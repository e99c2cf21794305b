package monitor

import (
	"math"
	"slices"
	"strings"
	"testing"

	"pursuivant/api"
)

// filled returns an input that has more than its kind asks for.
func filled(x api.Input) api.Input {
	if x.Kind != api.InStart {
		x.Request = asked("PUT", here, "X-A: 1")
	}
	if x.Kind != api.InAnswer {
		x.Response = got(302, "Location: /x")
	}
	if x.Kind != api.InTick && x.Kind != api.InDraw {
		x.N = 1 << 41
	}
	return x
}

// spoiled returns an input that has what no kind but its own may have.
func spoiled(x api.Input) api.Input {
	if x.Kind != api.InStart {
		x.Request = api.Request{Method: strings.Repeat("x", 513), Mode: -1}
	}
	if x.Kind != api.InAnswer {
		x.Response = got(-1, "a b: \n")
	}
	if x.Kind != api.InTick && x.Kind != api.InDraw {
		x.N = math.MaxUint64
	}
	if x.Kind == api.InTick {
		x.Session = -1
	}
	return x
}

// TestOtherFields has inputs with fields of other kinds, which do not count.
func TestOtherFields(t *testing.T) {
	plain := func(x api.Input) api.Input { return x }
	for _, change := range []func(api.Input) api.Input{plain, filled, spoiled} {
		w := open(t, config())
		r, x := asked("GET", here), got(200, "X-A: 1")
		w.feed(change(tick(6)), api.Event{Kind: 5, N: 6})
		w.feed(change(draw(4, 8)), api.Event{Kind: 6, N: 8})
		w.feed(change(start(4, r)), evStart(r), evSend("GET", here+"/", "body", true, 8))
		w.feed(change(draw(4, 9)), api.Event{Kind: 6, N: 9})
		w.feed(change(answer(4, x)), evAnswer(x), evEnd(1, 200))
		w.feed(change(start(4, r)), evStart(r), evSend("GET", here+"/", "body", true, 9))
		w.feed(change(fail(4)), api.Event{Kind: 4}, evEnd(15, 0))
		r = asked("GET", "")
		w.feed(change(start(4, r)), evStart(r), evEnd(5, 0))
	}
}

func TestTick(t *testing.T) {
	const most = 1 << 40
	for _, now := range []uint64{0, 1, 5, 1 << 32, most / 2, most - 1, most} {
		for _, n := range []uint64{0, 1, 2, 5, 255, 256, 1<<31 - 1, 1 << 31, 1 << 32, most / 2, most/2 + 1, most - 1, most, most - now - 1, most - now} {
			if n > most-now {
				continue
			}
			w := open(t, config())
			w.tick(now)
			w.tick(n)
			if w.kept.Now() != int(now+n) {
				t.Errorf("%d behind %d, it is %d", n, now, w.kept.Now())
			}
			w.draw(1, 2)
			w.tick(0)
			w.begin(1, asked("GET", here), evSend("GET", here+"/", "body", true, 2))
			w.fail(1)
		}
		w := open(t, config())
		w.tick(now)
		for _, n := range []uint64{most - now + 1, most - now + 2, most + 1, most + 2, 2 * most, 1 << 42, 1<<63 - 1, 1 << 63, 1<<63 + 1, 1<<63 - now, 1 << 62, math.MaxUint64 - now - 1, math.MaxUint64 - now, math.MaxUint64 - 1, math.MaxUint64} {
			w.refuse(tick(n), api.ErrOver)
		}
		if now > 0 {
			// With these, the sum would be 0, 1 and the greatest time, if it wrapped.
			for _, n := range []uint64{-now, 1 - now, most - now + 1<<63, -now + 1<<63} {
				if n != 0 {
					w.refuse(tick(n), api.ErrOver)
				}
			}
		}
		w.tick(most - now)
		w.tick(0)
		w.refuse(tick(1), api.ErrOver)
		w.draw(1, 1)
	}
}

// TestSumOfTicks has the time advance step by step.
func TestSumOfTicks(t *testing.T) {
	w := open(t, config())
	sum := 0
	for n := range 1000 {
		w.tick(uint64(n * n))
		if sum += n * n; w.kept.Now() != sum || w.spoilt.Now() != sum {
			t.Fatalf("it is %d, want %d", w.kept.Now(), sum)
		}
	}
}

// TestDraw has numbers drawn before, in and behind fetches.
func TestDraw(t *testing.T) {
	numbers := []uint64{0, 1, 2, 255, 256, 1 << 31, 1 << 32, 1<<63 - 1, 1 << 63, math.MaxUint64}
	own := func(n uint64) api.Event { return evSend("GET", here+"/", "body", true, n) }
	ask := func(n uint64) api.Event {
		return evAsk(there+"/", n, "Accept: */*", "Access-Control-Request-Method: PUT", "Origin: "+here)
	}
	send := func(n uint64) api.Event { return evSend("PUT", there+"/", "body", false, n, "Origin: "+here) }
	allowed := let(200, "Access-Control-Allow-Methods: PUT", "Access-Control-Max-Age: 0")
	for _, a := range numbers {
		for _, b := range numbers {
			w := open(t, config())
			w.begin(1, asked("GET", here), own(0))
			w.draw(1, a)
			w.draw(2, b)
			w.reply(1, got(307, "Location: "), own(a))
			w.reply(1, got(200), evEnd(1, 200))
			// It stays from fetch to fetch.
			w.begin(1, asked("GET", here), own(a))
			w.begin(2, asked("GET", here), own(b))
			w.begin(3, asked("GET", here), own(0))
			w.fail(1)
			w.fail(2)
			w.begin(1, asked("GET", ""), evEnd(5, 0))
			w.begin(1, asked("PUT", there), ask(a))
			w.draw(1, b)
			w.reply(1, allowed, send(b))
			w.draw(2, a)
			w.draw(2, a)
			w.reply(1, let(302, "Location: /"), ask(b))
			w.draw(1, a)
			w.draw(1, 7)
			w.reply(1, allowed, send(7))
			w.begin(2, asked("PUT", there), ask(a))
			w.fail(2)
			w.draw(2, 0)
			w.begin(2, asked("PUT", there), ask(0))
			w.reply(1, let(200), evEnd(2, 200))
			w.draw(1<<20, a)
			w.begin(1<<20, asked("GET", here), own(a))
			w.begin(0, asked("GET", here), own(0))
		}
	}
}

// TestFail has fetches fail at each point, and sessions that go on then.
func TestFail(t *testing.T) {
	w := open(t, config())
	ask := evAsk(there+"/", 0, "Accept: */*", "Access-Control-Request-Method: PUT", "Origin: "+here)
	send := evSend("PUT", there+"/", "body", false, 0, "Origin: "+here)
	allowed := let(200, "Access-Control-Allow-Methods: PUT")
	own := evSend("GET", here+"/", "body", true, 0)
	w.begin(1, asked("GET", here), own)
	w.fail(1)
	w.refuse(fail(1), api.ErrState)
	w.begin(1, asked("GET", here), own)
	w.reply(1, got(301, "Location: #"), evSend("GET", here+"/#", "body", true, 0))
	w.fail(1)
	w.begin(1, asked("PUT", there), ask)
	w.fail(1)
	// What was asked is forgotten: an answer is none to it.
	w.refuse(answer(1, allowed), api.ErrState)
	w.begin(1, asked("GET", here), own)
	w.reply(1, allowed, evEnd(1, 200))
	w.begin(1, asked("PUT", there), ask)
	w.reply(1, allowed, send)
	w.fail(1)
	// The answer that was learned is not.
	w.begin(1, asked("PUT", there), send)
	w.fail(1)
	w.begin(1, asked("GET", ""), evEnd(5, 0))
	w.refuse(fail(1), api.ErrState)
}

// TestCodes has all modes, whatever comes of them.
func TestCodes(t *testing.T) {
	for mode := 1; mode <= 3; mode++ {
		for cred := 1; cred <= 3; cred++ {
			w := open(t, config())
			for redirect := 1; redirect <= 3; redirect++ {
				for dest := 1; dest <= 10; dest++ {
					for _, url := range []string{here, ""} {
						r := with(asked("GET", url), func(r *api.Request) {
							r.Mode, r.Cred, r.Redirect, r.Dest = mode, cred, redirect, dest
						})
						x := api.Event{Kind: 1, Method: "GET", URL: url, Body: "body", Code: mode + 4*cred + 16*redirect + 64*dest, Nonce: "nonce"}
						if url == "" {
							w.feed(start(1, r), x, evEnd(5, 0))
							continue
						}
						w.feed(start(1, r), x, evSend("GET", here+"/", "body", cred != 1, 0))
						w.fail(1)
					}
				}
			}
		}
	}
	for _, c := range []struct {
		mode, cred, redirect, dest, code int
	}{{1, 1, 1, 1, 85}, {2, 1, 1, 1, 86}, {3, 3, 3, 10, 703}, {1, 2, 3, 4, 313}, {3, 2, 1, 5, 347}, {1, 3, 2, 8, 557}} {
		r := with(asked("GET", ""), func(r *api.Request) { r.Mode, r.Cred, r.Redirect, r.Dest = c.mode, c.cred, c.redirect, c.dest })
		open(t, config()).feed(start(1, r), api.Event{Kind: 1, Method: "GET", Body: "body", Code: c.code, Nonce: "nonce"}, evEnd(5, 0))
	}
}

// TestStart has requests that Begin changes. EvStart has them as they came in.
func TestStart(t *testing.T) {
	r := api.Request{
		Method: "pOsT", URL: "HTTPS://u:p@A.Example:8443?q#f", Mode: api.Cors, Cred: api.Include, Redirect: api.Manual, Dest: api.DestStyle, Nonce: "n\xff",
		Headers: lines("ACCEPT: a", "Cookie: c", "Origin: http://o", "x-b: 1", "Sec-A: d", "X-b: 2", "HOST: h"), Body: "b\x00\xff",
	}
	w := open(t, config())
	w.draw(5, 6)
	w.feed(start(5, r), api.Event{
		Kind: 1, Method: "pOsT", URL: "HTTPS://u:p@A.Example:8443?q#f", Code: 3 + 12 + 48 + 128, Nonce: "n\xff", Body: "b\x00\xff",
		Headers: lines("ACCEPT: a", "Cookie: c", "Origin: http://o", "x-b: 1", "Sec-A: d", "X-b: 2", "HOST: h"),
	}, evSend("POST", "https://u:p@a.example:8443/?q#f", "b\x00\xff", true, 6, "ACCEPT: a", "x-b: 1", "X-b: 2", "Origin: "+here))
	r = with(r, func(r *api.Request) {
		r.Method, r.URL, r.Mode, r.Redirect, r.Headers = "head", "HTTP://B.example:80", api.NoCors, api.Follow, lines("X-A: 1", "accept: b", "Content-Type: a/b", "Via: v")
	})
	w.feed(start(6, r), api.Event{
		Kind: 1, Method: "head", URL: "HTTP://B.example:80", Code: 2 + 12 + 16 + 128, Nonce: "n\xff", Body: "b\x00\xff", Headers: lines("X-A: 1", "accept: b", "Content-Type: a/b", "Via: v"),
	}, evSend("HEAD", there+"/", "b\x00\xff", true, 0, "accept: b"))
	// All may be empty.
	w.feed(start(7, api.Request{Mode: 1, Cred: 1, Redirect: 1, Dest: 1}), api.Event{Kind: 1, Code: 85}, evEnd(5, 0))
	r = api.Request{Method: "\x00", URL: "\xff", Mode: 1, Cred: 1, Redirect: 1, Dest: 1, Headers: lines("a b: \n", ": ")}
	w.feed(start(7, r), api.Event{Kind: 1, Method: "\x00", URL: "\xff", Headers: lines("a b: \n", ": "), Code: 85}, evEnd(5, 0))
}

// TestEndsAtOnce has all ends of Begin and of Gate.
func TestEndsAtOnce(t *testing.T) {
	for _, c := range []struct {
		change   func(r *api.Request)
		policies []string
		end      int
	}{
		{func(r *api.Request) { r.URL = "" }, nil, 5},
		{func(r *api.Request) { r.URL = "ftp://a" }, nil, 5},
		{func(r *api.Request) { r.URL = "/x" }, nil, 5},
		{func(r *api.Request) { r.URL = strings.Repeat("x", 2048) }, nil, 5},
		{func(r *api.Request) { r.URL, r.Method, r.Headers = "", "trace", lines("a b: c") }, []string{none}, 5},
		{func(r *api.Request) { r.Method = "" }, nil, 6},
		{func(r *api.Request) { r.Method = "a b" }, nil, 6},
		{func(r *api.Request) { r.Method, r.Headers = "Trace", lines("a b: c") }, nil, 6},
		{func(r *api.Request) { r.Headers = lines("a b: c") }, nil, 7},
		{func(r *api.Request) { r.Headers, r.Method, r.Mode = lines("a: \n"), "PUT", api.NoCors }, []string{none}, 7},
		{func(r *api.Request) { r.Method, r.Mode = "PUT", api.NoCors }, []string{none}, 6},
		{func(r *api.Request) {}, []string{none}, 8},
		{func(r *api.Request) {}, []string{"", "connect-src 'self'"}, 8},
		{func(r *api.Request) { r.Mode = api.SameOrigin }, []string{none}, 8},
		{func(r *api.Request) { r.Mode, r.Redirect = api.NoCors, api.Stop }, []string{none}, 8},
		{func(r *api.Request) { r.Mode, r.Redirect = api.NoCors, api.Follow }, []string{"", "", "", none}, 8},
		{func(r *api.Request) { r.Mode = api.SameOrigin }, nil, 9},
		{func(r *api.Request) { r.Mode, r.Redirect = api.NoCors, api.Stop }, nil, 12},
		{func(r *api.Request) { r.Mode, r.Redirect = api.NoCors, api.Manual }, []string{"", "", "", "", none}, 12},
	} {
		w := open(t, config(c.policies...))
		for range 2 {
			w.draw(1, 5)
			w.begin(1, with(asked("GET", there), c.change), evEnd(c.end, 0))
			w.refuse(fail(1), api.ErrState)
			w.refuse(answer(1, got(200)), api.ErrState)
		}
	}
}

// TestSent has what is sent at once, in each mode.
func TestSent(t *testing.T) {
	secret := []string{"Authorization: x", "X-A: 1", "Accept: a"}
	withOrigin := append(slices.Clone(secret), "Origin: "+here)
	for _, c := range []struct {
		method, url string
		mode        int
		policies    []string
		want        api.Event
	}{
		{"GET", here, api.SameOrigin, nil, evSend("GET", here+"/", "body", true, 0, secret...)},
		{"GET", here, api.NoCors, nil, evSend("GET", here+"/", "body", true, 0, "Accept: a")},
		{"GET", here, api.Cors, nil, evSend("GET", here+"/", "body", true, 0, secret...)},
		{"head", here, api.Cors, nil, evSend("HEAD", here+"/", "body", true, 0, secret...)},
		{"POST", here + "/p", api.SameOrigin, nil, evSend("POST", here+"/p", "body", true, 0, withOrigin...)},
		{"PUT", here, api.Cors, []string{"connect-src 'self'"}, evSend("PUT", here+"/", "body", true, 0, withOrigin...)},
		{"Patch", here, api.SameOrigin, nil, evSend("Patch", here+"/", "body", true, 0, withOrigin...)},
		{"GET", there, api.NoCors, nil, evSend("GET", there+"/", "body", false, 0, "Accept: a")},
		{"HEAD", there, api.NoCors, nil, evSend("HEAD", there+"/", "body", false, 0, "Accept: a")},
		{"POST", "http://u:p@b.example/x?y#z", api.NoCors, []string{"connect-src http:"}, evSend("POST", "http://u:p@b.example/x?y#z", "body", false, 0, "Accept: a", "Origin: "+here)},
	} {
		w := open(t, config(c.policies...))
		w.begin(1, with(asked(c.method, c.url, secret...), func(r *api.Request) { r.Mode = c.mode }), c.want)
	}
}

// TestCred has each mode of credentials, with what each taint makes of it.
func TestCred(t *testing.T) {
	for _, c := range []struct {
		url             string
		mode            int
		headers         []string
		omit, own, with bool // what is sent with credentials
	}{
		{here, api.SameOrigin, nil, false, true, true},
		{here, api.NoCors, nil, false, true, true},
		{here, api.Cors, nil, false, true, true},
		{there, api.NoCors, nil, false, false, true},
		{there, api.Cors, []string{"Origin: " + here}, false, false, true},
	} {
		for cred, want := range map[int]bool{api.Omit: c.omit, api.OwnOnly: c.own, api.Include: c.with} {
			w := open(t, config())
			w.begin(1, with(asked("GET", c.url), func(r *api.Request) { r.Mode, r.Cred = c.mode, cred }), evSend("GET", c.url+"/", "body", want, 0, c.headers...))
		}
	}
	// A preflight has none, and the request behind it has.
	for cred, want := range map[int]bool{api.Omit: false, api.OwnOnly: false, api.Include: true} {
		w := open(t, config())
		w.begin(1, with(asked("PUT", there), func(r *api.Request) { r.Cred = cred }), evAsk(there+"/", 0, "Accept: */*", "Access-Control-Request-Method: PUT", "Origin: "+here))
		w.reply(1, let(200, "Access-Control-Allow-Methods: PUT"), evSend("PUT", there+"/", "body", want, 0, "Origin: "+here))
	}
}
