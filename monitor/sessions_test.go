package monitor

import (
	"math/rand"
	"slices"
	"testing"

	"pursuivant/api"
)

// TestOwnCaches has sessions that are allowed the same at different times. None
// knows what another one is allowed.
func TestOwnCaches(t *testing.T) {
	w := open(t, config())
	sessions := []int{0, 1, 2, 3, 256, 1 << 16, 1 << 20}
	for i, n := range sessions {
		w.tick(2)
		w.begin(n, asked("PUT", there), preflightFor("PUT", there+"/", 0))
		w.reply(n, let(200, "Access-Control-Allow-Methods: PUT", "Access-Control-Max-Age: 10"), crossing("PUT", there+"/", 0))
		w.reply(n, let(200), evEnd(2, 200))
		for k, other := range sessions {
			if k > i || i-k >= 5 {
				w.begin(other, asked("PUT", there), preflightFor("PUT", there+"/", 0))
			} else {
				w.begin(other, asked("PUT", there), crossing("PUT", there+"/", 0))
			}
			w.fail(other)
		}
	}
	// A refusal makes one session forget alone.
	w.begin(3, asked("PATCH", there), preflightFor("PATCH", there+"/", 0))
	w.reply(3, let(200), evEnd(11, 0))
	w.begin(3, asked("PUT", there), preflightFor("PUT", there+"/", 0))
	w.begin(256, asked("PUT", there), crossing("PUT", there+"/", 0))
	w.begin(1<<20, asked("PUT", there), crossing("PUT", there+"/", 0))
}

// TestInterleaved has fetches of several sessions in progress at once.
func TestInterleaved(t *testing.T) {
	w := open(t, config("connect-src 'self' http://b.example http://c.example:81"))
	w.begin(1, asked("GET", here), evSend("GET", here+"/", "body", true, 0))
	w.begin(2, asked("PUT", there), preflightFor("PUT", there+"/", 0))
	w.draw(2, 22)
	w.tick(5)
	w.begin(0, with(asked("POST", elsewhere), func(r *api.Request) { r.Mode = api.NoCors }), evSend("POST", elsewhere+"/", "body", false, 0, "Origin: "+here))
	w.refuse(start(1, asked("GET", here)), api.ErrState)
	w.begin(3, asked("GET", "https://c.example"), evEnd(8, 0))
	w.draw(1, 11)
	w.begin(3, asked("DELETE", there), preflightFor("DELETE", there+"/", 0))
	w.reply(2, let(200, "Access-Control-Allow-Methods: *"), crossing("PUT", there+"/", 22))
	w.reply(1, got(307, "Location: "+there+"/x"), crossing("GET", there+"/x", 11))
	w.tick(1)
	w.reply(3, let(200, "Access-Control-Allow-Methods: PUT"), evEnd(11, 0))
	w.reply(0, got(404), evEnd(3, 0))
	w.reply(2, let(303, "Location: "+elsewhere), evSend("GET", elsewhere+"/", "", false, 22, "Origin: null"))
	w.fail(1)
	w.refuse(fail(1), api.ErrState)
	w.begin(1, asked("DELETE", there), preflightFor("DELETE", there+"/", 11))
	w.reply(2, got(200, "Access-Control-Allow-Origin: *"), evEnd(2, 200))
	w.begin(2, asked("DELETE", there), crossing("DELETE", there+"/", 22))
	w.reply(1, let(200, "Access-Control-Allow-Methods: *"), crossing("DELETE", there+"/", 11))
	w.reply(2, got(200), evEnd(10, 0))
	w.reply(1, let(299), evEnd(2, 299))
}

// ofSession returns the inputs of a session, and ticks.
func ofSession(script []api.Input, n int) []api.Input {
	var out []api.Input
	for _, x := range script {
		if x.Session == n || x.Kind == api.InTick {
			out = append(out, x)
		}
	}
	return out
}

// TestApart has each session decide as it does without the others.
func TestApart(t *testing.T) {
	r := rand.New(rand.NewSource(20))
	for range 40 {
		c := randomConfig(r)
		script, events := checkRandom(t, c, 300, func(busy map[int]bool) api.Input { return randomStep(r, busy) })
		for _, n := range []int{0, 1, 2, 3, 1 << 20} {
			want := slices.DeleteFunc(slices.Clone(events), func(x api.Event) bool {
				return x.Session != n && x.Kind != api.EvTick
			})
			list, taken, e := Run(c, ofSession(script, n))
			if !sameAll(list, want) || taken != takes(want) || e != api.OK {
				t.Fatalf("alone, session %d has the events %s, %d, %d, want %s", n, show(list), taken, e, show(want))
			}
		}
	}
}

// TestApartMonitors has monitors that share nothing.
func TestApartMonitors(t *testing.T) {
	v, w := open(t, config()), open(t, config())
	v.tick(9)
	v.draw(1, 8)
	v.begin(1, asked("PUT", there), preflightFor("PUT", there+"/", 8))
	w.refuse(answer(1, got(200)), api.ErrState)
	v.reply(1, let(200, "Access-Control-Allow-Methods: PUT"), crossing("PUT", there+"/", 8))
	w.begin(1, asked("PUT", there), preflightFor("PUT", there+"/", 0))
	w.tick(1)
	v.reply(1, let(200), evEnd(2, 200))
	w.fail(1)
	v.begin(1, asked("PUT", there), crossing("PUT", there+"/", 8))
}
