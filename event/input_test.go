package event

import (
	"reflect"
	"slices"
	"testing"

	"pursuivant/api"
)

// checkInput checks what Input returns, in new memory, and that it leaves x,
// also behind the length of its headers, as it is.
func checkInput(t *testing.T, x api.Event, want api.Input, wantOK bool) {
	t.Helper()
	x = roomy(x)
	before := whole(x.Headers)
	want.Request.Headers, want.Response.Headers = slices.Clone(want.Request.Headers), slices.Clone(want.Response.Headers)
	first, ok := Input(x)
	second, _ := Input(x)
	if !sameInput(first, want) || ok != wantOK {
		t.Fatalf("Input(%s) = %s, %v, want %s, %v", show(x), show(first), ok, show(want), wantOK)
	}
	if !wantOK && !reflect.DeepEqual(first, api.Input{}) {
		t.Fatalf("Input(%s) = %s", show(x), show(first))
	}
	fillHeaders(first.Request.Headers)
	fillHeaders(first.Response.Headers)
	if !slices.Equal(whole(x.Headers), before) {
		t.Fatalf("Input(%s), or a change of its result, changed the headers", show(before))
	}
	fillHeaders(x.Headers)
	if !sameInput(second, want) {
		t.Fatalf("Input(%s) became %s", show(want), show(second))
	}
}

// checkPlainInput compares Input with the model.
func checkPlainInput(t *testing.T, x api.Event) {
	t.Helper()
	want, ok := plainInput(x)
	checkInput(t, x, want, ok)
}

func TestInput(t *testing.T) {
	list := lines("A: 1", "b: 2")
	want := []api.Input{
		{Kind: 1, Session: 7, Request: api.Request{Method: "GET", URL: "http://u", Mode: 3, Cred: 3, Redirect: 3, Dest: 10, Nonce: "nonce", Headers: list, Body: "body"}},
		{}, {Kind: 2, Session: 7, Response: api.Response{Status: 404, Headers: list, Body: "body"}}, {Kind: 3, Session: 7}, {Kind: 4, N: 9}, {Kind: 5, Session: 7, N: 9}, {},
	}
	for i, x := range full() {
		checkInput(t, x, want[i], i != 1 && i != 6)
	}
	want = []api.Input{
		{Kind: 1, Request: api.Request{Mode: 1, Cred: 1, Redirect: 1, Dest: 1}}, {}, {Kind: 2, Response: api.Response{Status: 100}}, {Kind: 3}, {Kind: 4}, {Kind: 5}, {},
	}
	for i, x := range least() {
		checkInput(t, x, want[i], i != 1 && i != 6)
	}
}

func TestInputs(t *testing.T) {
	seen := map[int]int{}
	for _, x := range goods() {
		checkPlainInput(t, x)
		in, _ := Input(x)
		seen[in.Kind]++
	}
	for kind := 0; kind <= 5; kind++ {
		if seen[kind] < 20 {
			t.Errorf("of the inputs %v, %d is hardly tested", seen, kind)
		}
	}
}

func TestNoInputOfInvalid(t *testing.T) {
	for _, x := range bads() {
		checkInput(t, x, api.Input{}, false)
	}
}

// TestModes has each Mode, Cred, Redirect and Dest, each in its own field.
func TestModes(t *testing.T) {
	many := 0
	for mode := 0; mode <= 3; mode++ {
		for cred := 0; cred <= 3; cred++ {
			for redirect := 0; redirect <= 3; redirect++ {
				for dest := 0; dest <= 15; dest++ {
					x := api.Event{Kind: 1, Session: 1, Code: mode + 4*cred + 16*redirect + 64*dest}
					if mode == 0 || cred == 0 || redirect == 0 || dest == 0 || dest > 10 {
						checkInput(t, x, api.Input{}, false)
						continue
					}
					checkInput(t, x, api.Input{Kind: 1, Session: 1, Request: api.Request{Mode: mode, Cred: cred, Redirect: redirect, Dest: dest}}, true)
					many++
				}
			}
		}
	}
	if many != 270 {
		t.Errorf("there are %d Codes", many)
	}
}

// TestInputOfLongHeaders has headers that no valid request may have.
func TestInputOfLongHeaders(t *testing.T) {
	list := slices.Repeat([]api.Header{{Name: long(512), Value: long(2048)}}, 25)
	for _, kind := range []int{1, 3} {
		for _, x := range each(kind, func(x *api.Event) { x.Headers = list }) {
			in, ok := Input(x)
			if got := slices.Concat(in.Request.Headers, in.Response.Headers); !ok || !slices.Equal(got, list) {
				t.Errorf("Input(%s) = %s, %v", show(x), show(in), ok)
			}
		}
	}
}
