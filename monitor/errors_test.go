package monitor

import (
	"math"
	"math/rand"
	"slices"
	"strings"
	"testing"

	"pursuivant/api"
)

// invalidRequests returns requests that miss one condition each, by a little or
// by far.
func invalidRequests() []api.Request {
	var out []api.Request
	add := func(change func(r *api.Request)) {
		out = append(out, with(asked("GET", here), change))
	}
	for _, n := range append([]int{0, 4, 5, 256, 257}, extremes...) {
		add(func(r *api.Request) { r.Mode = n })
		add(func(r *api.Request) { r.Cred = n })
		add(func(r *api.Request) { r.Redirect = n })
	}
	for _, n := range append([]int{0, 11, 12, 256, 257}, extremes...) {
		add(func(r *api.Request) { r.Dest = n })
	}
	for _, n := range []int{1, 2, 256, 300} {
		add(func(r *api.Request) { r.Method = strings.Repeat("x", 512+n) })
		add(func(r *api.Request) { r.Nonce = strings.Repeat("x", 512+n) })
		add(func(r *api.Request) { r.URL = here + "/" + strings.Repeat("x", 2047-len(here)+n) })
		add(func(r *api.Request) { r.Body = strings.Repeat("x", 2048+n) })
		add(func(r *api.Request) { r.Headers = slices.Repeat(lines("x: y"), 24+n) })
		add(func(r *api.Request) { r.Headers = make([]api.Header, 24+n) })
		for _, at := range []int{0, 1, 23} {
			add(func(r *api.Request) {
				r.Headers = slices.Repeat(lines("x: y"), 24)
				r.Headers[at].Name = strings.Repeat("x", 512+n)
			})
			add(func(r *api.Request) {
				r.Headers = slices.Repeat(lines("x: y"), 24)
				r.Headers[at].Value = strings.Repeat("x", 512+n)
			})
		}
	}
	return append(out, api.Request{})
}

// invalidResponses returns responses that miss one condition each.
func invalidResponses() []api.Response {
	var out []api.Response
	for _, n := range append([]int{0, 1, 98, 99, 600, 601, 999, 200 + 1<<9, 200 + 1<<16, 200 + 1<<32, -200}, extremes...) {
		out = append(out, let(n), got(n, "Location: /"))
	}
	for _, n := range []int{1, 2, 256, 300} {
		x := let(200)
		x.Body = strings.Repeat("x", 2048+n)
		out = append(out, x, got(302, slices.Repeat([]string{"Location: /x"}, 24+n)...))
	}
	for _, text := range []string{"", ": x", " : x", "a b: x", "x:: y", "\xff: x", strings.Repeat("n", 65) + ": x", "x: \n", "x: \x00", "x: \x7f", "x: \x80", "x:  y", "x: y ", "x: \t", "x: " + strings.Repeat("v", 513)} {
		for at := range 3 {
			texts := slices.Insert([]string{"Access-Control-Allow-Origin: *", "Location: /x"}, at, text)
			out = append(out, got(200, texts...), got(302, texts...))
		}
	}
	return append(out, api.Response{})
}

// TestRequests has valid requests up to the limits, some of which then end
// because of what the limits do not say.
func TestRequests(t *testing.T) {
	w := open(t, config())
	url := here + "/"
	sent := evSend("GET", url, "body", true, 0)
	withList := func(list ...api.Header) api.Event {
		x := evSend("GET", url, "body", true, 0)
		x.Headers = list
		return x
	}
	last := slices.Repeat(lines("x: y"), 24)
	last[23] = api.Header{Name: strings.Repeat("n", 64), Value: strings.Repeat("v", 512)}
	for _, c := range []struct {
		change func(r *api.Request)
		want   api.Event
	}{
		{func(r *api.Request) {}, sent},
		{func(r *api.Request) { r.Mode = 1 }, sent},
		{func(r *api.Request) { r.Mode = 2 }, sent},
		{func(r *api.Request) { r.Redirect = 3 }, sent},
		{func(r *api.Request) { r.Dest = 1 }, sent},
		{func(r *api.Request) { r.Dest = 10 }, sent},
		{func(r *api.Request) { r.Method = strings.Repeat("x", 512) }, evSend(strings.Repeat("x", 512), url, "body", true, 0, "Origin: "+here)},
		{func(r *api.Request) { r.Method = "" }, evEnd(api.EndMethod, 0)},
		{func(r *api.Request) { r.Method = strings.Repeat("\xff", 512) }, evEnd(api.EndMethod, 0)},
		{func(r *api.Request) { r.Nonce = "" }, sent},
		{func(r *api.Request) { r.Nonce = strings.Repeat("\xff", 512) }, sent},
		{func(r *api.Request) { r.URL = "" }, evEnd(api.EndURL, 0)},
		{func(r *api.Request) { r.URL = strings.Repeat("\x00", 2048) }, evEnd(api.EndURL, 0)},
		{func(r *api.Request) { r.URL = url + strings.Repeat("x", 2048-len(url)) }, evEnd(api.EndURL, 0)},
		{func(r *api.Request) { r.URL = url + strings.Repeat("x", 1024-len(url)) }, evSend("GET", url+strings.Repeat("x", 1024-len(url)), "body", true, 0)},
		{func(r *api.Request) { r.Body = "" }, evSend("GET", url, "", true, 0)},
		{func(r *api.Request) { r.Body = strings.Repeat("\xff", 2048) }, evSend("GET", url, strings.Repeat("\xff", 2048), true, 0)},
		{func(r *api.Request) { r.Headers = last }, withList(last...)},
		{func(r *api.Request) { r.Headers = make([]api.Header, 24) }, evEnd(api.EndHeader, 0)},
		{func(r *api.Request) { r.Headers = lines(strings.Repeat("n", 65) + ": x") }, evEnd(api.EndHeader, 0)},
		{func(r *api.Request) { r.Headers = lines(strings.Repeat("n", 512) + ": x") }, evEnd(api.EndHeader, 0)},
		{func(r *api.Request) { r.Headers = lines("x: " + strings.Repeat("\n", 512)) }, evEnd(api.EndHeader, 0)},
		{func(r *api.Request) {
			r.Headers = slices.Repeat([]api.Header{{Name: strings.Repeat("\n", 512), Value: strings.Repeat("\n", 512)}}, 24)
		}, evEnd(api.EndHeader, 0)},
	} {
		w.begin(3, with(asked("GET", here), c.change), c.want)
		if c.want.Kind == api.EvSend {
			w.fail(3)
		}
	}
	for _, r := range invalidRequests() {
		w.refuse(start(3, r), api.ErrForm)
	}
	w.begin(3, asked("GET", here), sent)
	for _, r := range invalidRequests() {
		w.refuse(start(3, r), api.ErrForm)
	}
	w.refuse(start(3, asked("GET", "")), api.ErrState)
}

// TestResponses has responses up to the limits, as answers to a request and to a
// preflight.
func TestResponses(t *testing.T) {
	var valid []api.Response
	for n := 100; n <= 599; n++ {
		valid = append(valid, got(n))
	}
	long := got(200, slices.Repeat([]string{"x: y"}, 24)...)
	long.Body = strings.Repeat("\xff", 2048)
	long.Headers[23] = api.Header{Name: strings.Repeat("n", 64), Value: strings.Repeat("v", 512)}
	valid = append(valid, long, api.Response{Status: 404}, got(200, "x: ", "y: a\tb"))
	for part := range slices.Chunk(valid, 200) {
		w, v := open(t, config()), open(t, config())
		for _, x := range part {
			w.begin(1, asked("GET", here), evSend("GET", here+"/", "body", true, 0))
			w.reply(1, x, evEnd(api.EndBasic, x.Status))
			v.begin(1, asked("PUT", there), evAsk(there+"/", 0, "Accept: */*", "Access-Control-Request-Method: PUT", "Origin: "+here))
			v.reply(1, x, evEnd(api.EndPreflight, 0))
		}
		w.begin(1, asked("GET", here), evSend("GET", here+"/", "body", true, 0))
		v.begin(1, asked("PUT", there), evAsk(there+"/", 0, "Accept: */*", "Access-Control-Request-Method: PUT", "Origin: "+here))
		for _, x := range invalidResponses() {
			// The other session is idle.
			for session := 1; session <= 2; session++ {
				w.refuse(answer(session, x), api.ErrForm)
				v.refuse(answer(session, x), api.ErrForm)
			}
		}
		w.reply(1, got(200), evEnd(api.EndBasic, 200))
		v.reply(1, let(204, "Access-Control-Allow-Methods: *"), evSend("PUT", there+"/", "body", false, 0, "Origin: "+here))
	}
}

// full returns a world that has processed all inputs but so many.
func full(t *testing.T, left int) *world {
	t.Helper()
	w := open(t, config())
	for n := range 1024 - left {
		switch n % 3 {
		case 0:
			w.tick(0)
		case 1:
			w.draw(10+n%7, uint64(n))
		case 2:
			w.begin(10+n%7, asked("GET", "x"), evEnd(api.EndURL, 0))
		}
	}
	return w
}

// TestOrderOfErrors has inputs to which one error or several apply, for an idle
// session 1 and a busy session 2.
func TestOrderOfErrors(t *testing.T) {
	good, bad := asked("GET", here), with(asked("GET", here), func(r *api.Request) { r.Mode = 0 })
	cases := []struct {
		x    api.Input
		want api.Errno
	}{
		{api.Input{}, api.ErrArg}, {api.Input{Session: -1}, api.ErrArg}, {api.Input{Kind: -1}, api.ErrArg}, {api.Input{Kind: 6}, api.ErrArg}, {api.Input{Kind: 7}, api.ErrArg}, {api.Input{Kind: 256 + 4}, api.ErrArg}, {api.Input{Kind: 1<<32 + 4}, api.ErrArg},
		{api.Input{Kind: math.MaxInt, Session: -1, N: math.MaxUint64}, api.ErrArg}, {api.Input{Kind: math.MinInt, Session: 1 << 21}, api.ErrArg}, {api.Input{Kind: 6, Session: 2, Request: bad}, api.ErrArg}, {api.Input{N: 1<<40 + 1, Request: bad}, api.ErrArg},
		{draw(-1, 0), api.ErrArg}, {draw(1<<20+1, 0), api.ErrArg}, {draw(math.MaxInt, 0), api.ErrArg}, {draw(math.MinInt, 0), api.ErrArg},
		{start(-1, good), api.ErrArg}, {start(1<<20+1, good), api.ErrArg}, {start(-1, bad), api.ErrArg}, {start(1<<20+1, bad), api.ErrArg}, {start(2+1<<32, good), api.ErrArg},
		{answer(-1, got(200)), api.ErrArg}, {answer(1<<20+1, got(200)), api.ErrArg}, {answer(-1, got(99)), api.ErrArg}, {answer(1<<20+1, got(99)), api.ErrArg}, {answer(2+1<<32, got(200)), api.ErrArg},
		{fail(-1), api.ErrArg}, {fail(1<<20 + 1), api.ErrArg}, {fail(2 - 1<<32), api.ErrArg}, {fail(-2), api.ErrArg},
		{tick(1<<40 + 1), api.ErrOver}, {tick(math.MaxUint64), api.ErrOver}, {api.Input{Kind: 4, Session: -1, N: 1<<40 + 1}, api.ErrOver}, {api.Input{Kind: 4, Session: 1<<20 + 1, N: 1 << 63}, api.ErrOver}, {api.Input{Kind: 4, Session: 2, N: 1 << 62, Request: bad}, api.ErrOver},
		{start(1, bad), api.ErrForm}, {start(2, bad), api.ErrForm}, {answer(1, got(99)), api.ErrForm}, {answer(2, got(99)), api.ErrForm}, {answer(1, got(200, "a b: x")), api.ErrForm}, {answer(2, got(200, "a b: x")), api.ErrForm}, {start(0, bad), api.ErrForm}, {start(1<<20, bad), api.ErrForm}, {answer(1<<20, got(600)), api.ErrForm},
		{start(2, good), api.ErrState}, {start(2, asked("", "")), api.ErrState}, {answer(1, got(200)), api.ErrState}, {fail(1), api.ErrState}, {fail(0), api.ErrState}, {fail(1 << 20), api.ErrState}, {answer(0, got(200)), api.ErrState}, {answer(1<<20, got(200)), api.ErrState}, {fail(3), api.ErrState},
	}
	w := open(t, config())
	w.begin(2, good, evSend("GET", here+"/", "body", true, 0))
	w.begin(1, good, evSend("GET", here+"/", "body", true, 0))
	w.fail(1)
	v := full(t, 1)
	v.begin(2, good, evSend("GET", here+"/", "body", true, 0))
	for range 3 {
		for _, c := range cases {
			w.refuse(c.x, c.want)
			v.refuse(c.x, api.ErrLimit)
		}
	}
	for _, x := range []api.Input{tick(0), tick(1), tick(1 << 40), draw(0, 0), draw(1, 1), draw(2, 2), draw(1<<20, 1), start(1, good), start(0, asked("", "")), answer(2, got(200)), answer(2, got(302, "Location: /x")), fail(2)} {
		v.refuse(x, api.ErrLimit)
	}
	w.reply(2, got(200), evEnd(api.EndBasic, 200))
}

// TestSessions has the least and the greatest numbers of sessions.
func TestSessions(t *testing.T) {
	for _, n := range []int{0, 1, 1<<20 - 1, 1 << 20} {
		w := open(t, config())
		w.draw(n, 9)
		w.begin(n, asked("GET", here), evSend("GET", here+"/", "body", true, 9))
		w.reply(n, got(200), evEnd(api.EndBasic, 200))
		w.begin(n, asked("GET", here), evSend("GET", here+"/", "body", true, 9))
		w.fail(n)
	}
	w := open(t, config())
	for _, n := range append([]int{1<<20 + 2}, extremes...) {
		for range 2 {
			w.refuse(draw(n, 1), api.ErrArg)
			w.refuse(start(n, asked("GET", here)), api.ErrArg)
			w.refuse(answer(n, got(200)), api.ErrArg)
			w.refuse(fail(n), api.ErrArg)
		}
		w.feed(api.Input{Kind: api.InTick, Session: n, N: 2}, api.Event{Kind: 5, N: 2})
	}
	w.feed(api.Input{Kind: api.InTick, Session: 1 << 20}, api.Event{Kind: 5})
	w.feed(api.Input{Kind: api.InTick, Session: 1, N: 1}, api.Event{Kind: 5, N: 1})
}

// TestLimit has as many inputs as are processed, and more, of each kind.
func TestLimit(t *testing.T) {
	good := asked("GET", here)
	sent := evSend("GET", here+"/", "body", true, 0)
	for number := range 4 {
		w := full(t, number)
		for range number {
			w.tick(1)
		}
		for range 5 {
			w.refuse(tick(0), api.ErrLimit)
		}
	}
	for _, c := range []struct {
		x    api.Input
		want []api.Event
	}{
		{tick(1 << 40), []api.Event{{Kind: 5, N: 1 << 40}}},
		{draw(8, 3), []api.Event{{Kind: 6, N: 3}}},
		{start(8, good), []api.Event{evStart(good), sent}},
		{start(8, asked("GET", "")), []api.Event{evStart(asked("GET", "")), evEnd(api.EndURL, 0)}},
		{answer(9, got(404)), []api.Event{evAnswer(got(404)), evEnd(api.EndBasic, 404)}},
		{fail(9), []api.Event{{Kind: 4}, evEnd(api.EndNet, 0)}},
	} {
		w := full(t, 2)
		w.begin(9, good, sent)
		for _, r := range []api.Input{{}, draw(-1, 1), start(9, good), start(9, api.Request{}), answer(8, got(200)), answer(9, got(99)), fail(8), tick(1<<40 + 1)} {
			want := map[int]api.Errno{0: api.ErrArg, 1: api.ErrState, 2: api.ErrState, 3: api.ErrState, 4: api.ErrOver, 5: api.ErrArg}[r.Kind]
			if r.Request.Mode == 0 && r.Kind == 1 || r.Response.Status == 99 {
				want = api.ErrForm
			}
			w.refuse(r, want)
		}
		w.feed(c.x, c.want...)
		for range 2 {
			w.refuse(c.x, api.ErrLimit)
			w.refuse(tick(0), api.ErrLimit)
			w.refuse(draw(1, 1), api.ErrLimit)
			w.refuse(start(1, good), api.ErrLimit)
			w.refuse(answer(9, got(200)), api.ErrLimit)
			w.refuse(fail(9), api.ErrLimit)
			w.refuse(api.Input{}, api.ErrLimit)
		}
	}
}

// They are made once, as they are long.
var (
	badRequests  = invalidRequests()
	badResponses = invalidResponses()
)

// plainError says which error an input is, rule by rule.
func plainError(taken, now int, busy bool, x api.Input) api.Errno {
	if taken == 1024 {
		return api.ErrLimit
	}
	if !slices.Contains([]int{1, 2, 3, 4, 5}, x.Kind) {
		return api.ErrArg
	}
	if x.Kind == 4 {
		if x.N > 1<<40 || int(x.N)+now > 1<<40 {
			return api.ErrOver
		}
		return api.OK
	}
	if x.Session < 0 || x.Session > 1<<20 {
		return api.ErrArg
	}
	if x.Kind == 1 && !plainRequest(x.Request) || x.Kind == 2 && !plainResponse(x.Response) {
		return api.ErrForm
	}
	if map[int]bool{1: busy, 2: !busy, 3: !busy}[x.Kind] {
		return api.ErrState
	}
	return api.OK
}

// randomInput is an error more often than not.
func randomInput(r *rand.Rand, now int) api.Input {
	return api.Input{
		Kind: pick(r, 0, 1, 1, 1, 2, 2, 2, 3, 3, 4, 4, 5, 6, -1, 1<<32+1, math.MaxInt), Session: pick(r, 0, 5, 5, 5, 6, 6, 1<<20, 1<<20+1, -1, -5, 5+1<<32, math.MinInt, math.MaxInt),
		Request:  pick(r, asked("PUT", there, "X-A: 1"), asked("GET", here), api.Request{}, pick(r, badRequests...)),
		Response: pick(r, let(200, "Access-Control-Allow-Methods: *"), got(404), api.Response{}, pick(r, badResponses...)),
		N:        pick(r, 0, 1, 77, 1<<40-uint64(now)+1, 1<<40+1, 1<<63, math.MaxUint64, -uint64(now), 1-uint64(now)),
	}
}

// TestErrorsChangeNothing has errors come between the inputs of which the
// results rest on all that a monitor keeps.
func TestErrorsChangeNothing(t *testing.T) {
	r := rand.New(rand.NewSource(18))
	w := open(t, config())
	found := map[api.Errno]int{}
	taken := 0
	disturb := func() {
		for range 250 {
			x := randomInput(r, w.now)
			if e := plainError(taken, w.now, w.busy[x.Session], x); e != api.OK {
				found[e]++
				w.refuse(x, e)
			}
		}
		taken++
	}
	put, url := asked("PUT", there, "X-A: 1"), there+"/"
	ask := func(n uint64) api.Event {
		return evAsk(url, n, "Accept: */*", "Access-Control-Request-Method: PUT", "Access-Control-Request-Headers: x-a", "Origin: "+here)
	}
	send := func(n uint64) api.Event { return evSend("PUT", url, "body", false, n, "X-A: 1", "Origin: "+here) }
	allowed := let(200, "Access-Control-Allow-Methods: PUT", "Access-Control-Allow-Headers: x-a", "Access-Control-Max-Age: 10")
	steps := []func(){
		func() { w.tick(4) },
		func() { w.draw(5, 11) },
		func() { w.begin(5, put, ask(11)) },
		func() { w.begin(6, put, ask(0)) },
		func() { w.draw(6, 12) },
		func() { w.reply(5, allowed, send(11)) },
		func() { w.reply(6, allowed, send(12)) },
		func() { w.reply(5, let(200), evEnd(api.EndCors, 200)) },
		func() { w.begin(5, put, send(11)) },
		func() { w.tick(9) },
		func() { w.fail(5) },
		func() { w.begin(5, put, send(11)) },
		func() { w.reply(5, let(308, "Location: "+there), send(11)) },
		func() { w.fail(5) },
		func() { w.tick(1) },
		func() { w.begin(5, put, ask(11)) },
		func() { w.reply(5, got(200), evEnd(api.EndPreflight, 0)) },
		func() { w.fail(6) },
	}
	for range 1024 - len(steps) {
		w.tick(0)
		taken++
	}
	for _, step := range steps {
		disturb()
		step()
	}
	disturb()
	for _, e := range []api.Errno{api.ErrArg, api.ErrOver, api.ErrForm, api.ErrState, api.ErrLimit} {
		if found[e] < 100 {
			t.Errorf("of the errors %v, %d is hardly tested", found, e)
		}
	}
}
