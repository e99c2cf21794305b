package event

import (
	"math/rand"
	"slices"
	"strings"
	"testing"

	"pursuivant/api"
	"pursuivant/monitor"
)

// checkRun checks that the events of a script's run are valid, restored from
// their encodings, and again those of their inputs.
func checkRun(t *testing.T, c api.Config, script []api.Input) []api.Event {
	t.Helper()
	list, taken, e := monitor.Run(c, script)
	if e != api.OK {
		t.Fatalf("the run of %s ends with the error %d", show(script), e)
	}
	for _, x := range list {
		checkGood(t, x, true)
		checkPlainInput(t, x)
	}
	if got := takeAll(t, New(), putAll(t, New(), list)); !sameAll(got, list) {
		t.Fatalf("%s is restored as %s", show(list), show(got))
	}
	m, e := monitor.New(c)
	if e != api.OK {
		t.Fatal(e)
	}
	var again []api.Event
	inputs := 0
	for _, x := range list {
		in, ok := Input(x)
		if !ok {
			continue
		}
		inputs++
		events, e := m.Feed(in)
		if e != api.OK || !same(events[0], x) {
			t.Fatalf("the input %s of %s leads to %s, %d", show(in), show(x), show(events), e)
		}
		again = append(again, events...)
	}
	if inputs != taken || !sameAll(again, list) {
		t.Fatalf("the %d inputs of %s, of %d, lead to %s", inputs, show(list), taken, show(again))
	}
	return list
}

func TestRun(t *testing.T) {
	c := api.Config{Self: "https://a.example", Memo: 8}
	ask := api.Request{Method: "put", URL: "http://b", Mode: 3, Cred: 2, Redirect: 1, Dest: 5, Nonce: "n", Headers: lines("X-A: 1"), Body: "body"}
	allow := lines("Access-Control-Allow-Origin: https://a.example", "Access-Control-Allow-Methods: PUT", "Access-Control-Allow-Headers: x-a")
	list := checkRun(t, c, []api.Input{
		{Kind: 4, N: 5}, {Kind: 5, Session: 3, N: 99}, {Kind: 1, Session: 3, Request: ask}, {Kind: 2, Session: 3, Response: api.Response{Status: 204, Headers: allow}},
		{Kind: 3, Session: 4}, // an error: there is no such event
		{Kind: 4, N: 1}, {Kind: 2, Session: 3, Response: api.Response{Status: 200, Headers: allow, Body: "got"}}, {Kind: 1, Session: 3, Request: ask}, {Kind: 3, Session: 3},
	})
	var kinds []int
	for _, x := range list {
		kinds = append(kinds, x.Kind)
	}
	if want := []int{5, 6, 1, 2, 3, 2, 5, 3, 7, 1, 2, 4, 7}; !slices.Equal(kinds, want) {
		t.Errorf("the kinds are %v, want %v", kinds, want)
	}
}

// TestRunGreatest has a request, and a response, with as much as they may have.
func TestRunGreatest(t *testing.T) {
	c := api.Config{Self: "http://a", Memo: 64}
	var list, short []api.Header
	for i := range 24 {
		list = append(list, api.Header{Name: strings.Repeat("x", 40+i), Value: strings.Repeat("v", 512)})
		short = append(short, api.Header{Name: strings.Repeat("y", 64-i), Value: "v"})
	}
	ask := api.Request{Method: strings.Repeat("M", 512), URL: "http://" + strings.Repeat("u", 128) + "@b/" + strings.Repeat("p", 1000), Mode: 3, Cred: 3, Redirect: 3, Dest: 10, Nonce: long(512), Headers: list, Body: long(2048)}
	star := append(lines("Access-Control-Allow-Origin: http://a", "Access-Control-Allow-Credentials: true", "Access-Control-Allow-Methods: "+ask.Method), lines("Access-Control-Allow-Headers: "+names(list[:8]), "Access-Control-Allow-Headers: "+names(list[8:16]), "Access-Control-Allow-Headers: "+names(list[16:]))...)
	for _, headers := range [][]api.Header{list, short} {
		ask.Headers = headers
		var kinds []int
		for _, x := range checkRun(t, c, []api.Input{
			{Kind: 1, Session: 1 << 20, Request: ask}, {Kind: 2, Session: 1 << 20, Response: api.Response{Status: 599, Headers: star, Body: long(2048)}}, {Kind: 3, Session: 1 << 20}, {Kind: 4, N: 1 << 40}, {Kind: 5, Session: 1 << 20, N: 1<<64 - 1},
		}) {
			kinds = append(kinds, x.Kind)
		}
		if len(kinds) < 5 || kinds[1] != api.EvSend {
			t.Errorf("the kinds are %v", kinds)
		}
	}
	wrong := api.Request{URL: long(2048), Method: long(512), Nonce: long(512), Mode: 1, Cred: 1, Redirect: 1, Dest: 1, Body: long(2048), Headers: slices.Repeat([]api.Header{{Name: long(512), Value: long(512)}}, 24)}
	checkRun(t, c, []api.Input{{Kind: 1, Request: wrong}, {Kind: 1, Session: 1, Request: wrong}})
}

func names(list []api.Header) string {
	var out []string
	for _, h := range list {
		out = append(out, h.Name)
	}
	return strings.Join(out, ",")
}

func randomURL(r *rand.Rand) string {
	if r.Intn(30) == 0 {
		return pick(r, "", "x", "http://", "http://a:0")
	}
	return pick(r, "http", "http", "HTTP", "https") + "://" + pick(r, "", "", "", "u@") + pick(r, "a", "a", "A", "b", "b") + pick(r, "", "", ":81") + pick(r, "", "/", "/x", "/x/y?z") + pick(r, "", "", "#f")
}

func randomRequest(r *rand.Rand) api.Request {
	out := api.Request{
		Method: pick(r, "GET", "get", "head", "POST", "PUT", "put", "PATCH", "trace"), URL: randomURL(r), Mode: pick(r, 1, 2, 3, 3), Cred: r.Intn(3) + 1,
		Redirect: pick(r, 1, 1, 1, 1, 2, 3), Dest: r.Intn(10) + 1, Nonce: pick(r, "", "n"), Body: pick(r, "", "b"),
	}
	for range r.Intn(4) {
		out.Headers = append(out.Headers, pick(r, lines("Accept: a", "accept: (", "X-A: 1", "x-b: 2", "Authorization: x", "Content-Type: text/plain", "Cookie: c", "a b: x")...))
	}
	return out
}

func randomResponse(r *rand.Rand) api.Response {
	x := api.Response{Status: pick(r, 200, 204, 204, 301, 302, 303, 307, 308, 404, 99), Body: pick(r, "", "got")}
	for _, h := range lines(
		"Access-Control-Allow-Origin: "+pick(r, "http://a", "http://a", "*", "null"), "Access-Control-Allow-Credentials: true", "Access-Control-Allow-Methods: "+pick(r, "PUT,PATCH", "*", ""),
		"Access-Control-Allow-Headers: "+pick(r, "X-A, X-B, authorization, accept, content-type", "*"), "Access-Control-Max-Age: "+pick(r, "0", "9"), "Location: "+pick(r, randomURL(r), "y"),
	) {
		if r.Intn(12) > 0 {
			x.Headers = append(x.Headers, h)
		}
	}
	return x
}

// randomScript has inputs that are often not errors.
func randomScript(r *rand.Rand, c api.Config, number int) []api.Input {
	m, _ := monitor.New(c)
	var out []api.Input
	for range number {
		n := pick(r, 0, 1, 2, 1<<20)
		x := pick(r, api.Input{Kind: 4, N: uint64(r.Intn(9))}, api.Input{Kind: 5, Session: n, N: r.Uint64() >> r.Intn(64)})
		if r.Intn(6) > 0 {
			x = api.Input{Kind: 1, Session: n, Request: randomRequest(r)}
			if m.Busy(n) {
				x = api.Input{Kind: pick(r, 2, 2, 2, 2, 3), Session: n, Response: randomResponse(r)}
			}
		}
		if r.Intn(30) == 0 {
			x.Kind = r.Intn(7)
		}
		m.Feed(x)
		out = append(out, x)
	}
	return out
}

func TestRandomRuns(t *testing.T) {
	r := rand.New(rand.NewSource(21))
	kinds, codes := map[int]int{}, map[int]int{}
	for range 120 {
		c := api.Config{Self: pick(r, "http://a", "http://a", "https://a", "null"), Memo: pick(r, 1, 4, 64)}
		for range r.Intn(3) {
			c.Policies = append(c.Policies, pick(r, "", "default-src *", "default-src 'self' http:", "script-src 'nonce-n' *; img-src a b", "style-src 'none'"))
		}
		for _, x := range checkRun(t, c, randomScript(r, c, pick(r, 20, 300, 1024))) {
			kinds[x.Kind]++
			codes[x.Code]++
		}
	}
	for kind := 1; kind <= 7; kind++ {
		if kinds[kind] < 1000 {
			t.Errorf("the kinds are %v", kinds)
		}
	}
	for code := 1; code <= 15; code++ {
		if code != api.EndMany && codes[code] < 10 {
			t.Errorf("of the codes, %d occurs %d times", code, codes[code])
		}
	}
}
