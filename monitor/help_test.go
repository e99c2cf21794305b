package monitor

import (
	"fmt"
	"math"
	"slices"
	"strings"
	"testing"

	"pursuivant/api"
)

const (
	here  = "https://a.example:8443"
	there = "http://b.example"
	none  = "default-src 'none'"
)

// lines returns the headers that are written as name: value.
func lines(texts ...string) []api.Header {
	var out []api.Header
	for _, text := range texts {
		name, value, _ := strings.Cut(text, ": ")
		out = append(out, api.Header{Name: name, Value: value})
	}
	return out
}

// config returns a config of here with the policies.
func config(policies ...string) api.Config {
	return api.Config{Self: here, Policies: policies, Memo: 8}
}

// asked returns a valid request of mode Cors.
func asked(method, url string, texts ...string) api.Request {
	return api.Request{
		Method: method, URL: url, Mode: api.Cors, Cred: api.OwnOnly, Redirect: api.Follow, Dest: api.DestConnect, Nonce: "nonce",
		Headers: lines(texts...), Body: "body",
	}
}

// with returns a copy of r that was changed.
func with(r api.Request, change func(r *api.Request)) api.Request {
	r.Headers = slices.Clone(r.Headers)
	change(&r)
	return r
}

// got returns a response with the headers, of a status.
func got(status int, texts ...string) api.Response {
	return api.Response{Status: status, Headers: lines(texts...), Body: "answer"}
}

// let returns a response with the headers which here may read, with each mode of
// credentials.
func let(status int, texts ...string) api.Response {
	return got(status, append([]string{"Access-Control-Allow-Origin: " + here, "Access-Control-Allow-Credentials: true"}, texts...)...)
}

func start(session int, r api.Request) api.Input {
	return api.Input{Kind: api.InStart, Session: session, Request: r}
}

func answer(session int, x api.Response) api.Input {
	return api.Input{Kind: api.InAnswer, Session: session, Response: x}
}

func fail(session int) api.Input {
	return api.Input{Kind: api.InFail, Session: session}
}

func draw(session int, n uint64) api.Input {
	return api.Input{Kind: api.InDraw, Session: session, N: n}
}

func tick(n uint64) api.Input {
	return api.Input{Kind: api.InTick, N: n}
}

// The events that these functions return have no Session and no Tick.

func evStart(r api.Request) api.Event {
	return api.Event{Kind: 1, Method: r.Method, URL: r.URL, Headers: r.Headers, Body: r.Body, Code: r.Mode + 4*r.Cred + 16*r.Redirect + 64*r.Dest, Nonce: r.Nonce}
}

func evAsk(url string, n uint64, texts ...string) api.Event {
	return api.Event{Kind: 2, Method: "OPTIONS", URL: url, Headers: lines(texts...), Code: 1, N: n}
}

func evSend(method, url, body string, cred bool, n uint64, texts ...string) api.Event {
	return api.Event{Kind: 2, Method: method, URL: url, Headers: lines(texts...), Body: body, Code: 2, Cred: cred, N: n}
}

func evAnswer(x api.Response) api.Event {
	return api.Event{Kind: 3, Status: x.Status, Headers: x.Headers, Body: x.Body}
}

func evEnd(code, status int) api.Event {
	return api.Event{Kind: 7, Status: status, Code: code}
}

// show writes out a value, as far as a line has room for it.
func show(v any) string {
	return fmt.Sprintf("%.1500s", fmt.Sprintf("%+v", v))
}

// same compares all fields, each with its own.
func same(a, b api.Event) bool {
	return a.Kind == b.Kind && a.Session == b.Session && a.Tick == b.Tick && a.Method == b.Method && a.URL == b.URL && slices.Equal(a.Headers, b.Headers) &&
		a.Body == b.Body && a.Status == b.Status && a.Code == b.Code && a.Cred == b.Cred && a.Nonce == b.Nonce && a.N == b.N
}

func sameAll(a, b []api.Event) bool {
	return slices.EqualFunc(a, b, same)
}

// copied returns events with headers of their own.
func copied(list []api.Event) []api.Event {
	list = slices.Clone(list)
	for i := range list {
		list[i].Headers = slices.Clone(list[i].Headers)
	}
	return list
}

// fill overwrites a list and what lies behind its length.
func fill[T any](list []T, with T) {
	list = list[:cap(list)]
	for i := range list {
		list[i] = with
	}
}

// spoil overwrites events, with all their headers. None may share memory with
// another one.
func spoil(t *testing.T, list, want []api.Event) {
	t.Helper()
	for i, x := range list {
		if !same(x, want[i]) {
			t.Errorf("a change of another event changed %s to %s", show(want[i]), show(x))
		}
		fill(x.Headers, api.Header{Name: "changed", Value: "changed"})
	}
	fill(list, api.Event{Kind: -1, Method: "changed", URL: "changed", Headers: lines("changed: changed")})
}

// behind holds what lies behind the length of a list of headers, where it must
// change nothing.
var behind = append(lines("X-Behind: 1", "Origin: http://behind", "Location: http://behind/", "Authorization: x", "a b: x", ": "+strings.Repeat("x", 513), "Access-Control-Allow-Origin: *",
	"Access-Control-Allow-Credentials: true", "Access-Control-Allow-Methods: *, PUT", "Access-Control-Allow-Headers: *, x-a, authorization", "Access-Control-Max-Age: 99"), make([]api.Header, 24)...)

// lend replaces a list by a copy of it, with others behind its length. The
// functions that it returns check that neither has changed, and change both.
func lend[T comparable](t *testing.T, list *[]T, change T, others ...T) (check, spoil func()) {
	all := append(slices.Clone(*list), others...)
	before := slices.Clone(all)
	*list = all[:len(*list)]
	return func() {
		t.Helper()
		if !slices.Equal(all, before) {
			t.Errorf("of the list %s and what lies behind it, %s is left", show(before), show(all))
		}
	}, func() { fill(all, change) }
}

// lendInput lends the headers of an input.
func lendInput(t *testing.T, x *api.Input) (check, spoil func()) {
	change := api.Header{Name: "changed", Value: "changed"}
	checkRequest, spoilRequest := lend(t, &x.Request.Headers, change, behind...)
	checkResponse, spoilResponse := lend(t, &x.Response.Headers, change, behind...)
	return func() {
			t.Helper()
			checkRequest()
			checkResponse()
		}, func() {
			spoilRequest()
			spoilResponse()
		}
}

// world is two monitors that process the same. What one of them was given and
// has returned must remain as it is to the end; for the other one, it is
// overwritten behind each call.
type world struct {
	t      *testing.T
	kept   *Monitor
	spoilt *Monitor
	now    int
	busy   map[int]bool
	checks []func()
}

func open(t *testing.T, c api.Config) *world {
	t.Helper()
	w := &world{t: t, busy: map[int]bool{}}
	for _, m := range []**Monitor{&w.kept, &w.spoilt} {
		lent := c
		check, spoil := lend(t, &lent.Policies, none, slices.Repeat([]string{none}, 5)...)
		var e api.Errno
		if *m, e = New(lent); e != api.OK || *m == nil {
			t.Fatalf("New(%s) = %v, %d", show(c), *m, e)
		}
		check()
		if m == &w.kept {
			w.checks = append(w.checks, check)
		} else {
			spoil()
		}
	}
	t.Cleanup(func() {
		for _, check := range w.checks {
			check()
		}
	})
	w.look(0)
	return w
}

// look checks the time, and which sessions are busy.
func (w *world) look(session int) {
	w.t.Helper()
	for _, m := range []*Monitor{w.kept, w.spoilt} {
		for range 2 {
			if m.Now() != w.now {
				w.t.Fatalf("it is %d, want %d", m.Now(), w.now)
			}
			for n := range w.busy {
				if m.Busy(n) != w.busy[n] {
					w.t.Fatalf("Busy(%d) = %v", n, !w.busy[n])
				}
			}
			for _, n := range []int{session, session + 1, -session, ^session, session + 1<<32, 0, -1, 1 << 20, math.MaxInt, math.MinInt} {
				if m.Busy(n) != w.busy[n] {
					w.t.Fatalf("Busy(%d) = %v", n, !w.busy[n])
				}
			}
		}
	}
}

// refuse checks that an input is an error, and that this changes nothing that
// Now and Busy tell.
func (w *world) refuse(x api.Input, want api.Errno) {
	w.t.Helper()
	for _, m := range []*Monitor{w.kept, w.spoilt} {
		lent := x
		check, spoil := lendInput(w.t, &lent)
		if list, e := m.Feed(lent); len(list) != 0 || e != want {
			w.t.Fatalf("Feed(%s) = %s, %d, want error %d", show(x), show(list), e, want)
		}
		check()
		spoil()
	}
	w.look(x.Session)
}

// stamped returns events with the session of an input and the current time.
func (w *world) stamped(x api.Input, list []api.Event) []api.Event {
	list = copied(list)
	for i := range list {
		list[i].Session, list[i].Tick = x.Session, w.now
		if x.Kind == api.InTick {
			list[i].Session = 0
		}
	}
	return list
}

// feed checks the events of an input, which are given without Session and Tick,
// and what Now and Busy then tell.
func (w *world) feed(x api.Input, want ...api.Event) {
	w.t.Helper()
	if x.Kind == api.InTick {
		w.now += int(x.N)
	} else if x.Kind != api.InDraw {
		w.busy[x.Session] = want[len(want)-1].Kind == api.EvSend
	}
	want = w.stamped(x, want)
	for _, m := range []*Monitor{w.kept, w.spoilt} {
		lent := x
		check, spoilInput := lendInput(w.t, &lent)
		list, e := m.Feed(lent)
		if !sameAll(list, want) || e != api.OK {
			w.t.Fatalf("Feed(%s) = %s, %d, want %s", show(x), show(list), e, show(want))
		}
		check()
		if m == w.spoilt {
			spoilInput()
			spoil(w.t, list, want)
			continue
		}
		w.checks = append(w.checks, check, func() {
			if !sameAll(list, want) {
				w.t.Errorf("the events %s were changed later to %s", show(want), show(list))
			}
		})
	}
	w.look(x.Session)
}

// begin feeds the start of a request, with what follows the EvStart.
func (w *world) begin(session int, r api.Request, want api.Event) {
	w.t.Helper()
	w.feed(start(session, r), evStart(r), want)
}

// reply feeds an answer, with what follows the EvAnswer.
func (w *world) reply(session int, x api.Response, want api.Event) {
	w.t.Helper()
	w.feed(answer(session, x), evAnswer(x), want)
}

// fail feeds a failure, which ends the fetch.
func (w *world) fail(session int) {
	w.t.Helper()
	w.feed(fail(session), api.Event{Kind: 4}, evEnd(15, 0))
}

func (w *world) draw(session int, n uint64) {
	w.t.Helper()
	w.feed(draw(session, n), api.Event{Kind: 6, N: n})
}

func (w *world) tick(n uint64) {
	w.t.Helper()
	w.feed(tick(n), api.Event{Kind: 5, N: n})
}

func TestNumbers(t *testing.T) {
	if api.MaxInputs != 1024 || api.MaxSession != 1<<20 || api.MaxTick != 1<<40 || api.MaxMemo != 64 || api.MaxBody != 2048 || api.MaxHops != 20 || api.MaxHeaders != 24 || api.MaxValue != 512 || api.MaxName != 64 {
		t.Error("a limit has another number")
	}
	if api.InStart != 1 || api.InAnswer != 2 || api.InFail != 3 || api.InTick != 4 || api.InDraw != 5 {
		t.Error("a kind of inputs has another number")
	}
	if api.EvStart != 1 || api.EvSend != 2 || api.EvAnswer != 3 || api.EvFail != 4 || api.EvTick != 5 || api.EvDraw != 6 || api.EvEnd != 7 {
		t.Error("a kind of events has another number")
	}
	if api.EndBasic != 1 || api.EndCors != 2 || api.EndOpaque != 3 || api.EndManual != 4 || api.EndURL != 5 || api.EndMethod != 6 || api.EndHeader != 7 || api.EndPolicy != 8 || api.EndOrigin != 9 ||
		api.EndCheck != 10 || api.EndPreflight != 11 || api.EndRedirect != 12 || api.EndMany != 13 || api.EndUser != 14 || api.EndNet != 15 {
		t.Error("an end has another number")
	}
	if api.OK != 0 || api.ErrArg != 1 || api.ErrOver != 2 || api.ErrForm != 4 || api.ErrState != 10 || api.ErrLimit != 11 {
		t.Error("an error has another number")
	}
}
