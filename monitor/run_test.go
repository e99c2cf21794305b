package monitor

import (
	"math"
	"slices"
	"testing"

	"pursuivant/api"
)

// takes counts the events that are the first one of an input.
func takes(list []api.Event) int {
	number := 0
	for _, x := range list {
		if x.Kind != api.EvSend && x.Kind != api.EvEnd {
			number++
		}
	}
	return number
}

// checkRun runs a script several times. It may not change its arguments, and no
// result may share memory with them or with another result.
func checkRun(t *testing.T, c api.Config, script []api.Input, want []api.Event) {
	t.Helper()
	var results [][]api.Event
	var checks []func()
	for range 3 {
		c := c
		check, _ := lend(t, &c.Policies, "", none)
		checks = append(checks, check)
		given := slices.Clone(script)
		for i := range given {
			check, _ := lendInput(t, &given[i])
			checks = append(checks, check)
		}
		given = append(given, tick(1), draw(1, 1))
		before := slices.Clone(given)
		list, taken, e := Run(c, given[:len(script)])
		if !sameAll(list, want) || taken != takes(want) || e != api.OK {
			t.Fatalf("Run(%s) = %s, %d, %d, want %s, %d", show(script), show(list), taken, e, show(want), takes(want))
		}
		for i, x := range given {
			if x.Kind != before[i].Kind || x.Session != before[i].Session || x.N != before[i].N || x.Request.URL != before[i].Request.URL || x.Response.Status != before[i].Response.Status {
				t.Fatalf("the input %s was changed to %s", show(before[i]), show(x))
			}
		}
		results = append(results, list)
	}
	for i, list := range results {
		spoil(t, list, want)
		for _, check := range checks {
			check()
		}
		for _, other := range results[i+1:] {
			if !sameAll(other, want) {
				t.Fatalf("a change of another result changed %s to %s", show(want), show(other))
			}
		}
	}
}

// checkNotRun checks an error.
func checkNotRun(t *testing.T, c api.Config, script []api.Input, want api.Errno) {
	t.Helper()
	for range 2 {
		if list, taken, e := Run(c, script); len(list) != 0 || taken != 0 || e != want {
			t.Errorf("with a Memo of %d and %d inputs, Run returns %s, %d, %d", c.Memo, len(script), show(list), taken, e)
		}
	}
}

func TestRun(t *testing.T) {
	checkRun(t, config(), nil, nil)
	checkRun(t, config(), []api.Input{}, nil)
	r := asked("GET", here, "Accept: a")
	x := got(302, "Location: "+there)
	y := let(200, "X-B: b")
	want := []api.Event{
		{Kind: 5, N: 3, Tick: 3},
		{Kind: 6, Session: 2, Tick: 3, N: 9},
		{Kind: 1, Session: 2, Tick: 3, Method: "GET", URL: here, Headers: r.Headers, Body: "body", Code: 3 + 4*2 + 16 + 64*5, Nonce: "nonce"},
		{Kind: 2, Session: 2, Tick: 3, Method: "GET", URL: here + "/", Headers: r.Headers, Body: "body", Code: 2, Cred: true, N: 9},
		{Kind: 3, Session: 2, Tick: 3, Status: 302, Headers: x.Headers, Body: "answer"},
		{Kind: 2, Session: 2, Tick: 3, Method: "GET", URL: there + "/", Headers: lines("Accept: a", "Origin: "+here), Body: "body", Code: 2, N: 9},
		{Kind: 5, N: 1, Tick: 4},
		{Kind: 3, Session: 2, Tick: 4, Status: 200, Headers: y.Headers, Body: "answer"},
		{Kind: 7, Session: 2, Tick: 4, Status: 200, Code: 2},
		{Kind: 1, Session: 0, Tick: 4, Method: "GET", URL: "", Body: "body", Code: 3 + 4*2 + 16 + 64*5, Nonce: "nonce"},
		{Kind: 7, Session: 0, Tick: 4, Code: 5},
	}
	inputs := []api.Input{tick(3), draw(2, 9), start(2, r), answer(2, x), tick(1), answer(2, y), start(0, asked("GET", ""))}
	checkRun(t, config(), inputs, want)
	// Errors come between, in the place of each input and several at once.
	errors := []api.Input{{}, {Kind: 6}, draw(-1, 1), tick(1 << 63), start(2, api.Request{}), answer(2, api.Response{}), fail(3), answer(1, y)}
	for at := range len(inputs) + 1 {
		for _, x := range errors {
			checkRun(t, config(), slices.Insert(slices.Clone(inputs), at, x), want)
		}
		checkRun(t, config(), slices.Insert(slices.Clone(inputs), at, errors...), want)
	}
	checkRun(t, config(), errors, nil)
}

func TestLengthOfScript(t *testing.T) {
	for _, number := range []int{1, 2, 1023, 1024} {
		var want []api.Event
		for i := range number {
			want = append(want, api.Event{Kind: 5, N: 2, Tick: 2 * (i + 1)})
		}
		checkRun(t, config(), slices.Repeat([]api.Input{tick(2)}, number), want)
		checkRun(t, config(), make([]api.Input, number), nil)
		// The last one alone is none that counts.
		inputs := slices.Repeat([]api.Input{tick(2)}, number)
		inputs[number-1] = fail(0)
		checkRun(t, config(), inputs, want[:number-1])
	}
	for _, number := range []int{1025, 1026, 2048, 5000} {
		checkNotRun(t, config(), slices.Repeat([]api.Input{tick(2)}, number), api.ErrLimit)
		checkNotRun(t, config(), make([]api.Input, number), api.ErrLimit)
	}
	for _, most := range []int{0, -1, 65, math.MaxInt, math.MinInt} {
		for _, number := range []int{0, 1, 1024, 1025, 5000} {
			c := config()
			c.Memo = most
			checkNotRun(t, c, slices.Repeat([]api.Input{tick(2)}, number), api.ErrArg)
			checkNotRun(t, c, make([]api.Input, number), api.ErrArg)
		}
	}
	for _, most := range []int{1, 64} {
		c := config()
		c.Memo = most
		checkRun(t, c, []api.Input{tick(1)}, []api.Event{{Kind: 5, N: 1, Tick: 1}})
	}
}
