package monitor

import (
	"fmt"
	"math"
	"slices"
	"strings"
	"testing"

	"pursuivant/api"
)

// extremes holds numbers that are no number of anything.
var extremes = []int{math.MinInt, math.MinInt + 1, -1 << 40, -1 << 32, -1<<31 - 1, -257, -256, -255, -2, -1, 1<<20 + 1, 1 << 21, 1<<31 - 1, 1 << 32, 1<<32 + 1, 1<<32 + 5, 1 << 40, 1 << 62, math.MaxInt - 1, math.MaxInt}

func TestNew(t *testing.T) {
	policies := [][]string{nil, {}, {""}, {none}, {none, none, none, none, none, none}, {strings.Repeat("x", 1025)}, {"\x00\xff;;;"}, slices.Repeat([]string{""}, 99)}
	for _, self := range []string{here, "http://a", "null", "", "http://a/", "x", "\xff", strings.Repeat("a", 3000)} {
		for _, list := range policies {
			for most := 1; most <= 64; most++ {
				open(t, api.Config{Self: self, Policies: list, Memo: most})
			}
			for _, most := range append([]int{0, 65, 66, 128, 255, 256, 257, 1<<16 + 1}, extremes...) {
				for range 2 {
					if m, e := New(api.Config{Self: self, Policies: list, Memo: most}); m != nil || e != api.ErrArg {
						t.Errorf("with a Memo of %d, New returns %v, %d", most, m, e)
					}
				}
			}
		}
	}
}

// TestSize has preflight caches that are too small for what they learn, and some
// that are not.
func TestSize(t *testing.T) {
	for _, most := range []int{1, 2, 3, 8, 32, 63, 64} {
		for _, number := range []int{1, most - 1, most, most + 1, most + 2, 2 * most, 2*most + 1} {
			if number < 1 {
				continue
			}
			var methods []string
			for i := range number {
				methods = append(methods, fmt.Sprintf("%02x", i))
			}
			c := config()
			c.Memo = most
			w := open(t, c)
			last := methods[number-1]
			w.begin(1, asked(last, there), evAsk(there+"/", 0, "Accept: */*", "Access-Control-Request-Method: "+last, "Origin: "+here))
			w.reply(1, let(200, "Access-Control-Allow-Methods: "+strings.Join(methods, ",")), evSend(last, there+"/", "body", false, 0, "Origin: "+here))
			w.fail(1)
			for i, method := range methods {
				if i < number-most {
					w.begin(1, asked(method, there), evAsk(there+"/", 0, "Accept: */*", "Access-Control-Request-Method: "+method, "Origin: "+here))
				} else {
					w.begin(1, asked(method, there), evSend(method, there+"/", "body", false, 0, "Origin: "+here))
				}
				w.fail(1)
			}
		}
	}
}

// TestPoliciesAndSelf has the config's own parts decide.
func TestPoliciesAndSelf(t *testing.T) {
	url := here + "/x"
	r := with(asked("GET", url), func(r *api.Request) { r.Mode = api.SameOrigin })
	sent := evSend("GET", url, "body", true, 0)
	for number := range 8 {
		list := append(slices.Repeat([]string{"default-src 'self'"}, number), none)
		w := open(t, config(list...))
		if number < 4 {
			w.begin(1, r, evEnd(api.EndPolicy, 0))
		} else {
			w.begin(1, r, sent)
		}
	}
	for _, policies := range [][]string{nil, {""}, {"img-src 'none'"}, {"connect-src 'self'"}, {"connect-src https:", "connect-src *.example:*"}, {none + strings.Repeat(" ", 1024)}} {
		open(t, config(policies...)).begin(1, r, sent)
	}
	for _, from := range []string{"", "null", there, "https://a.example", "http://a.example:8443", here + "/", strings.ToUpper(here)} {
		w := open(t, api.Config{Self: from, Memo: 1})
		w.begin(1, r, evEnd(api.EndOrigin, 0))
		r := with(r, func(r *api.Request) { r.Mode = api.Cors })
		if from != there && from != "https://a.example" && from != "http://a.example:8443" {
			from = "null"
		}
		w.begin(1, r, evSend("GET", url, "body", false, 0, "Origin: "+from))
	}
}

func TestNil(t *testing.T) {
	inputs := []api.Input{{}, {Kind: -1}, {Kind: 6}, {Kind: math.MaxInt, Session: math.MinInt}, tick(0), tick(1), tick(1<<40 + 1), draw(0, 1), draw(-1, 1), fail(0), start(0, asked("GET", here)), start(0, api.Request{}), answer(0, got(200)), answer(0, got(99))}
	// A Monitor that New has not returned is not in the document. It must not panic.
	for _, m := range []*Monitor{nil, {}} {
		for range 2 {
			for _, x := range inputs {
				if list, e := m.Feed(x); len(list) != 0 || e != api.ErrArg {
					t.Errorf("without a Monitor, Feed(%s) = %s, %d", show(x), show(list), e)
				}
			}
			if m.Now() != 0 {
				t.Errorf("without a Monitor, it is %d", m.Now())
			}
			for _, n := range append([]int{0, 1, 1 << 20}, extremes...) {
				if m.Busy(n) {
					t.Errorf("without a Monitor, session %d is busy", n)
				}
			}
		}
	}
}

// TestBusy asks before and after each kind of input. (world.feed does so for
// more sessions, and for the time.)
func TestBusy(t *testing.T) {
	for _, n := range []int{0, 1, 2, 7, 255, 256, 1 << 16, 1<<20 - 1, 1 << 20} {
		w := open(t, config())
		check := func(want bool, now int) {
			t.Helper()
			for _, other := range append([]int{n - 1, n + 1, n ^ 1<<20, -n - 1}, extremes...) {
				if other != n && w.kept.Busy(other) {
					t.Fatalf("session %d is busy, which was never named", other)
				}
			}
			if w.kept.Busy(n) != want || w.kept.Now() != now {
				t.Fatalf("Busy(%d) = %v, and it is %d; want %v, %d", n, !want, w.kept.Now(), want, now)
			}
		}
		check(false, 0)
		w.tick(3)
		check(false, 3)
		w.draw(n, 1)
		check(false, 3)
		w.begin(n, asked("GET", "x"), evEnd(api.EndURL, 0))
		check(false, 3)
		w.begin(n, asked("GET", here), evSend("GET", here+"/", "body", true, 1))
		check(true, 3)
		w.draw(n, 2)
		w.tick(4)
		check(true, 7)
		w.reply(n, got(302, "Location: /x"), evSend("GET", here+"/x", "body", true, 2))
		check(true, 7)
		w.reply(n, got(200), evEnd(api.EndBasic, 200))
		check(false, 7)
		w.begin(n, asked("PUT", there), evAsk(there+"/", 2, "Accept: */*", "Access-Control-Request-Method: PUT", "Origin: "+here))
		check(true, 7)
		w.reply(n, let(200), evEnd(api.EndPreflight, 0))
		check(false, 7)
		w.begin(n, asked("PUT", there), evAsk(there+"/", 2, "Accept: */*", "Access-Control-Request-Method: PUT", "Origin: "+here))
		w.reply(n, let(200, "Access-Control-Allow-Methods: PUT"), evSend("PUT", there+"/", "body", false, 2, "Origin: "+here))
		check(true, 7)
		w.fail(n)
		check(false, 7)
	}
}
