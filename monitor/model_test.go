package monitor

import (
	"iter"
	"math/rand"
	"regexp"
	"slices"
	"strings"
	"testing"

	"pursuivant/api"
	"pursuivant/fetch"
	"pursuivant/memo"
	"pursuivant/pre"
)

// Regular expressions say here what headers may be.
var (
	token = regexp.MustCompile("^[a-zA-Z0-9!#$%&'*+.^_`|~-]{1,64}$")
	value = regexp.MustCompile(`^([!-~]([\t -~]*[!-~])?)?$`)
)

func plainRequest(r api.Request) bool {
	limits := [][3]int{{1, r.Mode, 3}, {1, r.Cred, 3}, {1, r.Redirect, 3}, {1, r.Dest, 10}, {0, len(r.Method), 512}, {0, len(r.Nonce), 512}, {0, len(r.URL), 2048}, {0, len(r.Body), 2048}, {0, len(r.Headers), 24}}
	for _, h := range r.Headers {
		limits = append(limits, [3]int{0, len(h.Name), 512}, [3]int{0, len(h.Value), 512})
	}
	return !slices.ContainsFunc(limits, func(l [3]int) bool { return l[1] < l[0] || l[1] > l[2] })
}

func plainResponse(x api.Response) bool {
	if x.Status/100 < 1 || x.Status/100 > 5 || len(x.Headers) > 24 || len(x.Body) > 2048 {
		return false
	}
	return !slices.ContainsFunc(x.Headers, func(h api.Header) bool {
		return !token.MatchString(h.Name) || !value.MatchString(h.Value) || len(h.Value) > 512
	})
}

// plainSession is a model of a session, in which a fetch is one function from
// its start to its end. It is resumed with each of its inputs.
type plainSession struct {
	c     api.Config
	now   *int
	input api.Input
	drawn uint64
	cache *memo.Memo
	yield func([]api.Event) bool
}

// stopped unwinds a session that is not resumed any more.
type stopped struct{}

// run is a sequence of what happens at each input.
func (p *plainSession) run(yield func([]api.Event) bool) {
	defer func() {
		if r := recover(); r != nil && r != (stopped{}) {
			panic(r)
		}
	}()
	p.yield = yield
	p.cache, _ = memo.New(p.c.Memo)
	if p.input.Kind == 5 {
		p.drawn = p.input.N
		p.wait(api.Event{Kind: 6, N: p.drawn})
	}
	for {
		p.wait(p.fetch(p.input.Request)...)
	}
}

// wait tells what has happened up to now, and returns at the next input that is
// not a draw.
func (p *plainSession) wait(list ...api.Event) {
	for {
		if !p.yield(list) {
			panic(stopped{})
		}
		if p.input.Kind != 5 {
			return
		}
		p.drawn = p.input.N
		list = []api.Event{{Kind: 6, N: p.drawn}}
	}
}

// fetch follows a fetch, and returns what has happened at the last input.
func (p *plainSession) fetch(r api.Request) []api.Event {
	list := []api.Event{{Kind: 1, Method: r.Method, URL: r.URL, Headers: r.Headers, Body: r.Body, Code: r.Mode + 4*r.Cred + 16*r.Redirect + 64*r.Dest, Nonce: r.Nonce}}
	f, end := fetch.Begin(p.c, r)
	for {
		if end == 0 {
			f, end = fetch.Gate(p.c, f)
		}
		if end != 0 {
			last := api.Event{Kind: 7, Code: end}
			if end <= 2 {
				last.Status = p.input.Response.Status
			}
			return append(list, last)
		}
		for _, code := range []int{1, 2} {
			x := api.Event{Kind: 2, Method: f.Request.Method, URL: f.Request.URL, Headers: fetch.Headers(f), Body: f.Request.Body, Code: 2, Cred: fetch.Creds(f), N: p.drawn}
			if code == 1 {
				if !fetch.Asks(f, p.cache, *p.now) {
					continue
				}
				x = api.Event{Kind: 2, Method: "OPTIONS", URL: f.Request.URL, Headers: pre.Ask(fetch.Sent(f), f.Request.Method, f.Request.Headers), Code: 1, N: p.drawn}
			}
			p.wait(append(list, x)...)
			if p.input.Kind == 3 {
				return []api.Event{{Kind: 4}, {Kind: 7, Code: 15}}
			}
			y := p.input.Response
			list = []api.Event{{Kind: 3, Headers: y.Headers, Body: y.Body, Status: y.Status}}
			if code == 1 && !fetch.Learn(f, p.cache, y, *p.now) {
				return append(list, api.Event{Kind: 7, Code: 11})
			}
		}
		f, end = fetch.After(f, p.input.Response)
	}
}

// plainMonitor is a model of a monitor.
type plainMonitor struct {
	t          *testing.T
	c          api.Config
	now, taken int
	busy       map[int]bool
	sessions   map[int]func(api.Input) []api.Event
}

func plainNew(t *testing.T, c api.Config) *plainMonitor {
	return &plainMonitor{t: t, c: c, busy: map[int]bool{}, sessions: map[int]func(api.Input) []api.Event{}}
}

func (m *plainMonitor) session(n int) func(api.Input) []api.Event {
	if m.sessions[n] == nil {
		p := &plainSession{c: m.c, now: &m.now}
		next, stop := iter.Pull(p.run)
		m.t.Cleanup(stop)
		m.sessions[n] = func(x api.Input) []api.Event {
			p.input = x
			list, _ := next()
			return list
		}
	}
	return m.sessions[n]
}

// feed returns events without Session and Tick.
func (m *plainMonitor) feed(x api.Input) ([]api.Event, api.Errno) {
	if e := plainError(m.taken, m.now, m.busy[x.Session], x); e != api.OK {
		return nil, e
	}
	m.taken++
	if x.Kind == 4 {
		m.now += int(x.N)
		return []api.Event{{Kind: 5, N: x.N}}, api.OK
	}
	if x.Kind == 1 {
		// Nothing else of the input may count.
		x.Response = api.Response{}
	}
	list := m.session(x.Session)(x)
	if x.Kind != 5 {
		m.busy[x.Session] = list[len(list)-1].Kind == 2
	}
	return list, api.OK
}

func pick[T any](r *rand.Rand, list ...T) T {
	return list[r.Intn(len(list))]
}

func randomURL(r *rand.Rand) string {
	return pick(r, "http", "http", "HTTP", "https") + "://" + pick(r, "", "", "", "", "u@", "u:p@") + pick(r, "a", "a", "A", "b", "b", "c.b") + pick(r, "", "", "", ":80", ":81") + pick(r, "", "", "/", "/x", "/x/y?z") + pick(r, "", "", "", "#f")
}

func randomRequest(r *rand.Rand) api.Request {
	out := api.Request{
		Method: pick(r, "GET", "get", "head", "POST", "POST", "PUT", "put", "PATCH"), URL: randomURL(r), Mode: pick(r, 1, 2, 3, 3), Cred: r.Intn(3) + 1,
		Redirect: pick(r, 1, 1, 1, 1, 1, 2, 3), Dest: r.Intn(10) + 1, Nonce: pick(r, "", "n"), Body: pick(r, "", "b"),
	}
	for range r.Intn(4) {
		out.Headers = append(out.Headers, pick(r, lines("Accept: a", "accept: (", "X-A: 1", "x-b: 2", "Authorization: x", "Content-Type: text/plain", "content-type: a/b", "Cookie: c", "SEC-x: d", "Origin: e")...))
	}
	switch r.Intn(80) {
	case 0:
		out.URL = pick(r, "", "x", "http://", "http://a:0")
	case 1:
		out.Method = pick(r, "", "a b", "trace", "CONNECT", strings.Repeat("x", 512))
	case 2:
		out.Headers = append(out.Headers, lines(pick(r, "a b: c", strings.Repeat("n", 65)+": x", "X: \n"))...)
	case 3:
		return pick(r, badRequests...)
	}
	return out
}

func randomConfig(r *rand.Rand) api.Config {
	c := api.Config{Self: pick(r, "http://a", "http://a", "http://a", "https://a", "http://b", "http://a:81", "null", ""), Memo: pick(r, 1, 2, 4, 4, 64)}
	for range r.Intn(6) {
		c.Policies = append(c.Policies, pick(r, "", "default-src *", "default-src 'self' http:", "default-src http: https:", "script-src 'nonce-n' *; img-src a b", "connect-src http://a/x https:; default-src *", "style-src 'none'", "worker-src https:", none+strings.Repeat(" ", 1024)))
	}
	return c
}

// randomResponse mostly lets a fetch go on.
func randomResponse(r *rand.Rand) api.Response {
	if r.Intn(60) == 0 {
		return pick(r, badResponses...)
	}
	x := got(pick(r, 200, 204, 204, 204, 301, 302, 303, 307, 307, 308, 404))
	texts := []string{
		"Access-Control-Allow-Origin: " + pick(r, "http://a", "http://a", "http://a", "*", "*", "null", "https://a", "http://b", "http://a:81"), "Access-Control-Allow-Credentials: " + pick(r, "true", "true", "true", "false"),
		"Access-Control-Allow-Methods: " + pick(r, "PUT,PATCH", "PUT", "PUT, PATCH", "*", "", "a b"), "Access-Control-Allow-Headers: " + pick(r, "X-A, X-B, authorization, accept, content-type", "x-a,x-b,Authorization,Accept,Content-Type", "*", "*, authorization", "x y"),
		"Access-Control-Max-Age: " + pick(r, "0", "3", "9", "x", "100000"), "Location: " + pick(r, randomURL(r), randomURL(r), randomURL(r), "y", "", "?q", "x:y"), "X-A: 1",
	}
	for _, h := range lines(texts...) {
		if r.Intn(20) > 0 {
			x.Headers = append(x.Headers, h)
		}
	}
	return x
}

// randomStep is rarely an error.
func randomStep(r *rand.Rand, busy map[int]bool) api.Input {
	n := pick(r, 0, 1, 2, 3, 1<<20)
	x := pick(r, tick(uint64(r.Intn(4))), draw(n, r.Uint64()>>r.Intn(64)))
	if r.Intn(8) > 0 {
		x = start(n, randomRequest(r))
		if busy[n] {
			x = pick(r, fail(n), answer(n, randomResponse(r)), answer(n, randomResponse(r)), answer(n, randomResponse(r)), answer(n, randomResponse(r)), answer(n, randomResponse(r)), answer(n, randomResponse(r)))
		}
	}
	if r.Intn(30) == 0 {
		x.Kind = r.Intn(7)
	}
	if r.Intn(60) == 0 {
		x.Session = pick(r, -1, 1<<20+1, 1<<32)
	}
	return x
}

// checkRandom feeds a monitor and its model, and returns the inputs and the
// events of those that were taken.
func checkRandom(t *testing.T, c api.Config, number int, next func(busy map[int]bool) api.Input) (script []api.Input, events []api.Event) {
	t.Helper()
	w, plain := open(t, c), plainNew(t, c)
	for range number {
		x := next(plain.busy)
		script = append(script, x)
		want, e := plain.feed(x)
		if e != api.OK {
			w.refuse(x, e)
			continue
		}
		w.feed(x, want...)
		events = append(events, w.stamped(x, want)...)
	}
	return script, events
}

func TestRandom(t *testing.T) {
	r := rand.New(rand.NewSource(18))
	ends, sends := map[int]int{}, map[int]int{}
	for range 150 {
		c := randomConfig(r)
		script, want := checkRandom(t, c, 400, func(busy map[int]bool) api.Input { return randomStep(r, busy) })
		checkRun(t, c, script, want)
		for _, x := range want {
			switch x.Kind {
			case 2:
				sends[x.Code]++
			case 7:
				ends[x.Code]++
			}
		}
	}
	for end := 1; end <= 15; end++ {
		if end != api.EndMany && ends[end] < 100 {
			t.Errorf("of the ends %v, %d is hardly tested", ends, end)
		}
	}
	if sends[1] < 1000 || sends[2] < 1000 {
		t.Errorf("what is sent is hardly tested: %v", sends)
	}
}

// TestLong has more inputs than are processed.
func TestLong(t *testing.T) {
	r := rand.New(rand.NewSource(19))
	for range 6 {
		c := randomConfig(r)
		_, events := checkRandom(t, c, 1500, func(busy map[int]bool) api.Input { return randomStep(r, busy) })
		if len(events) < 1024 {
			t.Errorf("there are only %d events", len(events))
		}
	}
}

func FuzzMonitor(f *testing.F) {
	f.Add(int64(1), "http://a", "default-src *", "PUT", "http://b/x", "X-A: 1", 307, "Location: http://a/", []byte("\x00\x11\x22\x33\x44\x55"))
	f.Add(int64(2), "null", none, "get", "HTTPS://u@a:81#f", "Accept: (", 99, "a b: ", []byte("\x10\x10\x11\x11\x11\x40\x50\x90"))
	f.Fuzz(func(t *testing.T, seed int64, self, policy, method, url, line string, status int, reply string, order []byte) {
		r := rand.New(rand.NewSource(seed))
		c := api.Config{Self: self, Policies: []string{"", policy, line}, Memo: r.Intn(64) + 1}
		at := 0
		script, want := checkRandom(t, c, min(len(order), 1100), func(busy map[int]bool) api.Input {
			b := order[at]
			at++
			x := randomStep(r, busy)
			if b&0x10 == 0 {
				return x
			}
			if b&0x20 == 0 {
				x.Request.Method, x.Request.URL, x.Request.Headers = method, url, append(x.Request.Headers, lines(line)...)
			}
			if b&0x40 == 0 {
				x.Response.Status = status
			}
			if b&0x80 == 0 {
				x.Response.Headers = append(x.Response.Headers, lines(reply)...)
			}
			return x
		})
		if len(script) <= 1024 {
			checkRun(t, c, script, want)
		}
	})
}
