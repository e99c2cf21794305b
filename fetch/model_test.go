package fetch

import (
	"math/rand"
	"regexp"
	"slices"
	"strings"
	"testing"

	"pursuivant/api"
	"pursuivant/cors"
	"pursuivant/csp"
	"pursuivant/hop"
	"pursuivant/memo"
	"pursuivant/origin"
	"pursuivant/pre"
	"pursuivant/url"
)

// Regular expressions say here what the lower layers do with single bytes.
var (
	token      = regexp.MustCompile("^[a-zA-Z0-9!#$%&'*+.^_`|~-]+$")
	value      = regexp.MustCompile(`^([!-~]([\t -~]*[!-~])?)?$`)
	bad        = regexp.MustCompile(`^(?i:connect|trace|track)$`)
	usual      = regexp.MustCompile(`^(?i:delete|get|head|options|post|put)$`)
	simple     = regexp.MustCompile(`^(GET|HEAD|POST)$`)
	unsent     = regexp.MustCompile(`^(?i:accept-charset|accept-encoding|access-control-request-headers|access-control-request-method|connection|content-length|cookie2?|date|dnt|expect|host|keep-alive|origin|referer|set-cookie|te|trailer|transfer-encoding|upgrade|via|proxy-.*|sec-.*)$`)
	safelisted = regexp.MustCompile("^(?i:accept: [\t !#-';*+,./0-9;=A-Z^_`a-z|~-]*|(accept|content)-language: [0-9A-Za-z *,.;=-]*|content-type: [\t ]*(application/x-www-form-urlencoded|multipart/form-data|text/plain)[\t ]*(;[\t !#-';*+,./0-9;=A-Z^_`a-z|~-]*)?)$")
)

func plainSafe(h api.Header) bool {
	return len(h.Value) <= 128 && safelisted.MatchString(h.Name+": "+h.Value)
}

func plainGood(r api.Request) bool {
	limits := [][3]int{{1, r.Mode, 3}, {1, r.Cred, 3}, {1, r.Redirect, 3}, {1, r.Dest, 10}, {0, len(r.Method), 512}, {0, len(r.Nonce), 512}, {0, len(r.URL), 2048}, {0, len(r.Body), 2048}, {0, len(r.Headers), 24}}
	for _, h := range r.Headers {
		limits = append(limits, [3]int{0, len(h.Name), 512}, [3]int{0, len(h.Value), 512})
	}
	return !slices.ContainsFunc(limits, func(l [3]int) bool { return l[1] < l[0] || l[1] > l[2] })
}

func plainBegin(c api.Config, r api.Request) (api.Fetch, int) {
	u, e := url.Parse(r.URL)
	if e != api.OK {
		return api.Fetch{}, api.EndURL
	}
	if !token.MatchString(r.Method) || bad.MatchString(r.Method) {
		return api.Fetch{}, api.EndMethod
	}
	var kept []api.Header
	for _, h := range r.Headers {
		if !token.MatchString(h.Name) || !value.MatchString(h.Value) || len(h.Name) > 64 || len(h.Value) > 512 {
			return api.Fetch{}, api.EndHeader
		}
		if !unsent.MatchString(h.Name) && (r.Mode != 2 || plainSafe(h)) {
			kept = append(kept, h)
		}
	}
	if usual.MatchString(r.Method) {
		r.Method = strings.ToUpper(r.Method)
	}
	if r.Mode == 2 && !simple.MatchString(r.Method) {
		return api.Fetch{}, api.EndMethod
	}
	f := api.Fetch{Request: r, From: "null", Taint: 1}
	f.Request.URL, f.Request.Headers = url.Text(u), kept
	if _, e := origin.Parse(c.Self); e == api.OK {
		f.From = c.Self
	}
	return f, 0
}

func plainGate(c api.Config, f api.Fetch) (api.Fetch, int) {
	u, _ := url.Parse(f.Request.URL)
	self, _ := origin.Parse(c.Self)
	for i, text := range c.Policies {
		p, e := csp.Parse(text)
		if i < 4 && e == api.OK && !csp.Allows(p, f.Request.Dest, f.Request.Nonce, u, self, f.Hops != 0) {
			return api.Fetch{}, api.EndPolicy
		}
	}
	mine := origin.Text(origin.Of(u)) == c.Self
	switch {
	case f.Taint == 1 && mine:
		return f, 0
	case f.Request.Mode == 1:
		return api.Fetch{}, api.EndOrigin
	case f.Request.Mode == 2 && f.Request.Redirect > 1:
		return api.Fetch{}, api.EndRedirect
	}
	f.Taint = map[int]int{2: 3, 3: 2}[f.Request.Mode]
	return f, 0
}

func plainSent(f api.Fetch) string {
	return map[bool]string{false: f.From, true: "null"}[f.Lost]
}

func plainCreds(f api.Fetch) bool {
	return slices.Contains([][2]int{{2, 1}, {3, 1}, {3, 2}, {3, 3}}, [2]int{f.Request.Cred, f.Taint})
}

func plainHeaders(f api.Fetch) []api.Header {
	if f.Taint != 2 && (f.Request.Method == "GET" || f.Request.Method == "HEAD") {
		return f.Request.Headers
	}
	var out []api.Header
	found := false
	for _, h := range f.Request.Headers {
		if low(h.Name) != "origin" {
			out = append(out, h)
		} else if !found {
			out, found = append(out, api.Header{Name: "Origin", Value: plainSent(f)}), true
		}
	}
	if !found {
		out = append(out, api.Header{Name: "Origin", Value: plainSent(f)})
	}
	return out
}

// plainNames returns the names of the headers that are not safelisted.
func plainNames(f api.Fetch) []string {
	names := map[string]int{}
	for _, h := range f.Request.Headers {
		if !plainSafe(h) {
			names[low(h.Name)]++
		}
	}
	var out []string
	for name := range names {
		out = append(out, name)
	}
	slices.Sort(out)
	return out
}

// plainKey returns the URL of the entries for a fetch: without a user, which
// ends with the last @ before the path.
func plainKey(f api.Fetch) string {
	scheme, rest, _ := strings.Cut(f.Request.URL, "//")
	authority, path, _ := strings.Cut(rest, "/")
	return scheme + "//" + authority[strings.LastIndex(authority, "@")+1:] + "/" + path
}

func plainAsks(f api.Fetch, list []api.Asked, now int) bool {
	has := func(method, name string) bool {
		for _, x := range list {
			any := func(s, own string) bool { return s == own || !x.Cred && s == "*" && own != "" }
			if x.From == plainSent(f) && x.URL == plainKey(f) && x.Until > now && (x.Cred || !plainCreds(f)) &&
				any(x.Method, method) && any(x.Header, name) && (x.Header == name || name != "authorization") {
				return true
			}
		}
		return false
	}
	needed := !simple.MatchString(f.Request.Method) && !has(f.Request.Method, "")
	for _, name := range plainNames(f) {
		needed = needed || !has("", name)
	}
	return needed && f.Taint == 2
}

func plainLearn(f api.Fetch, m *memo.Memo, x api.Response, now int) bool {
	a, ok := pre.Read(x, plainSent(f), f.Request.Cred)
	if ok = ok && a.Lets(f.Request.Method, plainNames(f), f.Request.Cred); !ok {
		m.Drop(plainSent(f), plainKey(f))
	}
	for i := range 2 {
		for _, s := range [][]string{a.Methods, a.Headers}[i] {
			if ok {
				m.Put(api.Asked{From: plainSent(f), URL: plainKey(f), Cred: plainCreds(f), Method: []string{s, ""}[i], Header: []string{"", s}[i], Until: now + a.Age}, now)
			}
		}
	}
	return ok
}

func plainAfter(f api.Fetch, x api.Response) (api.Fetch, int) {
	_, leads := hop.Leads(x)
	switch {
	case f.Taint == 2 && !cors.Check(x.Headers, plainSent(f), f.Request.Cred):
		return api.Fetch{}, 10
	case leads && f.Request.Redirect == 1:
		return hop.Next(f, x)
	case leads:
		return api.Fetch{}, map[int]int{2: 12, 3: 4}[f.Request.Redirect]
	}
	return api.Fetch{}, f.Taint
}

// script has what the world answers.
type script struct {
	now    func() int
	answer func(f api.Fetch) api.Response
}

// walk does a whole fetch, each step of it twice and like the model, and returns
// what it has done. The caches have the same entries.
func walk(t *testing.T, c api.Config, r api.Request, m, plain *memo.Memo, s script) (end int, steps map[string]int) {
	t.Helper()
	steps = map[string]int{}
	checkGood(t, r, plainGood(r))
	if !plainGood(r) {
		steps["not valid"]++
		return 0, steps
	}
	f, end := plainBegin(c, r)
	checkBegin(t, c, r, f, end)
	for end == 0 {
		g, e := plainGate(c, f)
		checkGate(t, c, f, g, e)
		if f, end = g, e; end != 0 {
			break
		}
		if !ask(t, f, m, plain, s, steps) {
			return api.EndPreflight, steps
		}
		checkProtected(t, c, f)
		x := s.answer(f)
		g, e = plainAfter(f, x)
		checkAfter(t, f, x, g, e)
		f, end = g, e
		steps["hops"] += f.Hops
	}
	return end, steps
}

// ask does what comes before a fetch is sent.
func ask(t *testing.T, f api.Fetch, m, plain *memo.Memo, s script, steps map[string]int) bool {
	t.Helper()
	now := s.now()
	checkSent(t, f, plainSent(f))
	checkHeaders(t, f, plainHeaders(f))
	if Creds(f) != plainCreds(f) {
		t.Fatalf("Creds(%s) = %v", show(f), Creds(f))
	}
	asks := plainAsks(f, m.List(), now)
	checkAsks(t, f, m, now, asks)
	if !asks {
		steps["not asked"]++
		return true
	}
	steps["asked"]++
	x := s.answer(f)
	before := m.List()
	ok := plainLearn(f, plain, x, now)
	if ok {
		steps["learned"]++
	}
	checkLearn(t, f, 4, before, x, now, ok, plain.List()...)
	if Learn(f, m, x, now) != ok {
		t.Fatalf("Learn(%s, %s, %s, %d) = %v", show(f), show(before), show(x), now, !ok)
	}
	checkList(t, m, plain.List()...)
	return ok
}

// checkProtected checks what must hold for all that is sent.
func checkProtected(t *testing.T, c api.Config, f api.Fetch) {
	t.Helper()
	for _, h := range Headers(f) {
		if unsent.MatchString(h.Name) && h.Name != "Origin" {
			t.Fatalf("for %s, a forbidden header is sent", show(f))
		}
	}
	u, _ := url.Parse(f.Request.URL)
	if f.Taint == api.EndBasic && origin.Text(origin.Of(u)) != c.Self {
		t.Fatalf("%s goes to another origin", show(f))
	}
}

func pick[T any](r *rand.Rand, list ...T) T {
	return list[r.Intn(len(list))]
}

func randomURL(r *rand.Rand) string {
	return pick(r, "http", "http", "HTTP", "https") + "://" + pick(r, "", "", "", "u@", "u:p@") + pick(r, "a", "a", "A", "b", "c.b") + pick(r, "", "", "", ":80", ":81") + pick(r, "", "", "/", "/x", "/x/y?z") + pick(r, "", "", "", "#f")
}

func randomHeaders(r *rand.Rand) []api.Header {
	var out []api.Header
	for range r.Intn(4) {
		out = append(out, pick(r, lines("Accept: a", "accept: (", "X-A: 1", "x-b: 2", "Authorization: x", "Content-Type: text/plain", "content-type: a/b", "Cookie: c", "SEC-x: d", "Origin: e", "accept-Language: en")...))
	}
	if r.Intn(60) == 0 {
		out = append(out, pick(r, api.Header{}, api.Header{Name: "a b"}, api.Header{Name: strings.Repeat("n", 65)}, api.Header{Name: strings.Repeat("n", 513)}, api.Header{Name: "X", Value: "\n"}, api.Header{Name: "x", Value: strings.Repeat("v", 512)}))
	}
	return out
}

func randomRequest(r *rand.Rand) api.Request {
	out := api.Request{
		Method: pick(r, "GET", "get", "head", "POST", "POST", "PUT", "put", "PATCH", "patch"), URL: randomURL(r), Mode: r.Intn(3) + 1, Cred: r.Intn(3) + 1,
		Redirect: pick(r, 1, 1, 1, 1, 2, 3), Dest: r.Intn(10) + 1, Nonce: pick(r, "", "n"), Headers: randomHeaders(r), Body: pick(r, "", "b"),
	}
	switch r.Intn(60) {
	case 0:
		out.URL = pick(r, "", "x", "http://", "http://a:0", strings.Repeat("x", 2049))
	case 1:
		out.Method = pick(r, "", "a b", "trace", "CONNECT", strings.Repeat("x", 512), strings.Repeat("x", 513))
	case 2:
		out.Mode, out.Cred, out.Redirect, out.Dest = r.Intn(5), r.Intn(5), r.Intn(5), r.Intn(12)
	case 3:
		out.Headers = make([]api.Header, 20+r.Intn(8))
	}
	return out
}

func randomConfig(r *rand.Rand) api.Config {
	c := api.Config{Self: pick(r, "http://a", "http://a", "http://a", "https://a", "http://b", "http://a:81", "null", "", "http://a/"), Memo: 4}
	for range r.Intn(7) {
		c.Policies = append(c.Policies, pick(r, "", "default-src *", "default-src 'self' http:", "default-src http: https:", "script-src 'nonce-n' *; img-src a b", "connect-src http://a/x https:; default-src *", "default-src http://*.b http://a b a:81", "style-src 'none'", "worker-src https:", none+strings.Repeat(" ", 1024)))
	}
	return c
}

// randomScript mostly answers what lets a fetch go on.
func randomScript(r *rand.Rand) script {
	now := 0
	return script{
		now: func() int {
			now += r.Intn(4)
			return now
		},
		answer: func(f api.Fetch) api.Response {
			x := answer(pick(r, 200, 204, 204, 204, 301, 302, 303, 307, 307, 308, 404))
			texts := []string{
				"Access-Control-Allow-Origin: " + pick(r, plainSent(f), plainSent(f), plainSent(f), plainSent(f), "*", "null", "http://z"), "Access-Control-Allow-Credentials: " + pick(r, "true", "true", "true", "false"),
				"Access-Control-Allow-Methods: " + pick(r, f.Request.Method+", a", f.Request.Method, "PUT,PATCH", "*", "", "a b"), "Access-Control-Allow-Headers: " + pick(r, "X-A, X-B, authorization, accept, content-type", "x-a,x-b,Authorization,Accept,Content-Type", "*", "*, authorization", "", "x y"),
				"Access-Control-Max-Age: " + pick(r, "0", "3", "9", "x", "100000"), "Location: " + pick(r, randomURL(r), randomURL(r), randomURL(r), "y", "", "?q", "x:y"), "X-A: 1",
			}
			for _, h := range lines(texts...) {
				if r.Intn(20) > 0 {
					x.Headers = append(x.Headers, h)
				}
			}
			return x
		},
	}
}

func TestRandom(t *testing.T) {
	r := rand.New(rand.NewSource(17))
	ends, steps := map[int]int{}, map[string]int{}
	for range 1500 {
		c := randomConfig(r)
		m, plain := stored(t, 4), stored(t, 4)
		s := randomScript(r)
		// One cache is that of several fetches.
		for range 6 {
			end, done := walk(t, c, randomRequest(r), m, plain, s)
			ends[end]++
			for what, n := range done {
				steps[what] += n
			}
		}
	}
	for end := range api.EndUser + 1 {
		if end != api.EndMany && ends[end] < 50 {
			t.Errorf("of the ends %v, %d is hardly tested", ends, end)
		}
	}
	for _, what := range []string{"not valid", "asked", "not asked", "learned", "hops"} {
		if steps[what] < 50 {
			t.Errorf("of the steps %v, %q is hardly tested", steps, what)
		}
	}
}

// TestManyHops has a fetch that is redirected again and again.
func TestManyHops(t *testing.T) {
	for _, url := range []string{"http://a/", "http://b/"} {
		for sent := range 30 {
			sends := 0
			s := script{now: func() int { return 0 }, answer: func(f api.Fetch) api.Response {
				x := answer(307, "Access-Control-Allow-Origin: *", "Location: x")
				if sends++; sends > sent {
					x.Status = 200
				}
				return x
			}}
			r := withRequest(request("GET", url, api.Cors), func(r *api.Request) {})
			end, _ := walk(t, api.Config{Self: "http://a"}, r, stored(t, 4), stored(t, 4), s)
			want := map[string]int{"http://a/": api.EndBasic, "http://b/": api.EndCors}[url]
			if sent > 20 {
				want = api.EndMany
			}
			if end != want || sends != min(sent, 20)+1 {
				t.Errorf("behind %d redirects from %s, it ends with %d", sends, url, end)
			}
		}
	}
}

func FuzzFetch(f *testing.F) {
	f.Add("http://a", "default-src *", "put", "http://b", 3, 2, 1, 5, "X-A", "1", "http://c/x", "PUT", "x-a", "10", 307)
	f.Add("https://a:81", "img-src 'self' http://*.b/x", "POST", "https://A:81/?#", 1, 3, 1, 3, "content-type", "a/b", "//u@b", "*", "*", "", 303)
	f.Add("null", "script-src 'nonce-1'", "get", "http://u@a", 2, 1, 1, 1, "Accept", "(", "", "", "", "x", 302)
	f.Add("x", none, "track", "http://", 3, 3, 3, 10, "sec-", "\n", "x:y", "a b", ",", "0", 200)
	f.Fuzz(func(t *testing.T, self, policy, method, to string, mode, cred, redirect, dest int, name, text, location, methods, names, age string, status int) {
		c := api.Config{Self: self, Policies: []string{"", policy, text + ";" + policy, name, none}}
		list := []api.Header{{Name: name, Value: text}, {Name: "Accept", Value: text}, {Name: text, Value: name}, {Name: "Authorization"}, {Name: name}}
		statuses := []int{status, 204, status, 307}
		turn := 0
		s := script{
			now: func() int { return turn },
			answer: func(f api.Fetch) api.Response {
				turn++
				return answer(statuses[turn%4], "Access-Control-Allow-Origin: "+[]string{"*", plainSent(f), self, plainSent(f), plainSent(f)}[turn%5], "Access-Control-Allow-Credentials: true", "Access-Control-Allow-Methods: "+methods, "Access-Control-Allow-Headers: "+names, "Access-Control-Max-Age: "+age, "Location: "+location, name+": "+text)
			},
		}
		m, plain := stored(t, 4), stored(t, 4)
		for n := range len(list) + 1 {
			r := api.Request{Method: method, URL: to, Mode: mode, Cred: cred, Redirect: redirect, Dest: dest, Nonce: text, Headers: list[:n], Body: text}
			walk(t, c, r, m, plain, s)
			r.Mode, r.Cred, r.Redirect, r.Dest = n%3+1, (n+turn)%3+1, 1, n+1
			walk(t, c, r, m, plain, s)
		}
	})
}
