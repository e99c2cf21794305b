package event

import (
	"fmt"
	"math"
	"reflect"
	"slices"
	"strings"
	"testing"

	"pursuivant/api"
)

const allowed = api.Cors + 4*api.Include + 16*api.Manual + 64*api.DestManifest

// least has an event of each kind with as little as it may have.
func least() []api.Event {
	return []api.Event{
		{Kind: 1, Code: 1 + 4 + 16 + 64}, {Kind: 2, Code: 1}, {Kind: 3, Status: 100}, {Kind: 4}, {Kind: 5}, {Kind: 6}, {Kind: 7, Code: 1},
	}
}

// full has an event of each kind with all that it may have.
func full() []api.Event {
	list := lines("A: 1", "b: 2")
	return []api.Event{
		{Kind: 1, Session: 7, Tick: 8, Method: "GET", URL: "http://u", Headers: list, Body: "body", Code: allowed, Nonce: "nonce"},
		{Kind: 2, Session: 7, Tick: 8, Method: "GET", URL: "http://u", Headers: list, Body: "body", Code: 2, Cred: true, N: 9},
		{Kind: 3, Session: 7, Tick: 8, Headers: list, Body: "body", Status: 404},
		{Kind: 4, Session: 7, Tick: 8},
		{Kind: 5, Tick: 8, N: 9},
		{Kind: 6, Session: 7, Tick: 8, N: 9},
		{Kind: 7, Session: 7, Tick: 8, Status: 404, Code: 2},
	}
}

// each has the events of least and full, of which a copy is changed.
func each(kind int, change func(x *api.Event)) []api.Event {
	return []api.Event{with(least()[kind-1], change), with(full()[kind-1], change)}
}

// greatest has the greatest value, or the greatest values, of each field.
func greatest(kind int) map[string][]any {
	out := map[string][]any{
		"Session": {0, 1, 2, 1<<20 - 1, 1 << 20}, "Tick": {0, 1, 2, 1 << 32, 1<<40 - 1, 1 << 40},
		"Method": {"", "\x00", every(), long(511), long(512)}, "Nonce": {"", "\xFF", every(), long(511), long(512)},
		"URL": {"", "a b", every(), long(513), long(2047), long(2048)}, "Body": {"", "\n", every(), long(513), long(2047), long(2048)},
		"Headers": {[]api.Header(nil), []api.Header{}, make([]api.Header, 0, 40), many(1), many(24), many(25), make([]api.Header, 25)},
		"Cred":    {false, true},
		"N":       {uint64(0), uint64(1), uint64(math.MaxUint32), uint64(1<<40 - 1), uint64(1 << 40), uint64(1<<40 + 1), uint64(math.MaxInt64), uint64(1 << 63), uint64(math.MaxUint64 - 1), uint64(math.MaxUint64)},
	}
	for _, list := range [][]api.Header{{{}}, {{Name: long(512)}}, {{Value: long(2048)}}, {{Name: long(512), Value: long(2048)}}, {{Name: every(), Value: every()}}, slices.Repeat([]api.Header{{Name: long(512), Value: long(2048)}}, 25)} {
		out["Headers"] = append(out["Headers"], list)
	}
	switch kind {
	case 1:
		out["Code"] = []any{1 + 4 + 16 + 64, allowed - 1, allowed}
	case 2:
		out["Code"] = []any{1, 2}
	case 3:
		out["Status"] = []any{100, 101, 199, 200, 304, 500, 598, 599}
	case 5:
		out["Session"] = out["Session"][:1]
		out["N"] = out["N"][:5]
	case 7:
		out["Code"] = []any{1, 2, 3, 4, 5, 6, 7, 8, 9, 10, 11, 12, 13, 14, 15, 16}
		out["Status"] = []any{0, 1, 99, 100, 101, 598, 599}
	}
	return out
}

// outside has values of each field that are wrong for each kind, or for one.
func outside(kind int) map[string][]any {
	negative := []any{-1, -2, -100, -1 << 20, -1<<31 - 1, -1 << 32, -1 << 40, math.MinInt + 1, math.MinInt}
	great := []any{1<<40 + 1, 1<<40 + 2, 1 << 41, 1<<53 + 7, 1 << 62, math.MaxInt - 1, math.MaxInt}
	out := map[string][]any{
		"Session": slices.Concat(negative, []any{1<<20 + 1, 1<<20 + 2, 1<<31 + 7, 1 << 32, 1<<32 + 7, 1 << 40}, great), "Tick": slices.Concat(negative, great),
		"Method": {long(513), long(514), long(2048), long(1 << 16)}, "Nonce": {long(513), long(514), long(2048), long(1 << 16)},
		"URL": {long(2049), long(2050), long(1 << 16)}, "Body": {long(2049), long(2050), long(1 << 16)},
		"Headers": {many(26), many(27), many(300), make([]api.Header, 26)},
	}
	for _, h := range []api.Header{{Name: long(513)}, {Value: long(2049)}, {Name: long(513), Value: long(2049)}, {Name: long(2048)}, {Name: long(1 << 16)}, {Value: long(1 << 16)}} {
		for _, i := range []int{0, 1, 12, 24} {
			out["Headers"] = append(out["Headers"], append(many(i), h), append(append(many(i), h), many(24-i)...))
		}
	}
	far := slices.Concat(negative, []any{1 << 10, 1 << 16, 1<<16 + 1, 1<<32 + 1, 1<<32 + 2, 1<<32 + 100, 1<<32 + allowed}, great)
	switch kind {
	case 1:
		out["Code"] = slices.Concat([]any{0, 1, 84, 756, 763, 764, 1023, 1024, 1024 + allowed, allowed - 1024, 64*11 + 21}, negative, []any{1<<32 + allowed, 1<<40 + allowed, math.MinInt + allowed, math.MaxInt})
	case 2:
		out["Code"] = slices.Concat([]any{0, 3, 4, 256, 257, 258}, far)
	case 3:
		out["Status"] = slices.Concat([]any{0, 1, 98, 99, 600, 601, 999, 65536 + 200}, far)
	case 5:
		out["Session"] = append(out["Session"], 1, 2, 7, 1<<20)
		out["N"] = []any{uint64(1<<40 + 1), uint64(1<<40 + 2), uint64(1 << 41), uint64(math.MaxInt64), uint64(1 << 63), uint64(1<<63 + 1), uint64(math.MaxUint64)}
	case 7:
		out["Code"] = slices.Concat([]any{0, 17, 18, 64, 257, allowed}, far)
		out["Status"] = slices.Concat([]any{600, 601, 999, 65536 + 200}, far)
	}
	for _, name := range strings.Fields(allFields) {
		if !slices.Contains(fieldsOf(kind), name) {
			out[name] = strangeValues(name)
		}
	}
	return out
}

// strangeValues has what a field of another kind may have, but for nothing.
func strangeValues(name string) []any {
	switch name {
	case "Headers":
		return []any{[]api.Header{{}}, lines("a: b"), many(25)}
	case "Cred":
		return []any{true}
	case "Status", "Code":
		return []any{1, 2, 85, 100, 200, 599, allowed, -1, math.MinInt, math.MaxInt, 1 << 32}
	case "N":
		return []any{uint64(1), uint64(5), uint64(1 << 32), uint64(1 << 63), uint64(math.MaxUint64)}
	}
	return []any{" ", "\x00", "GET", "a", long(512)}
}

// changed has events of a kind, each with one value of one field.
func changed(kind int, values map[string][]any) []api.Event {
	var out []api.Event
	for _, name := range append([]string{"Session", "Tick"}, strings.Fields(allFields)...) {
		for _, value := range values[name] {
			out = append(out, each(kind, func(x *api.Event) { field(x, name).Set(reflect.ValueOf(value)) })...)
		}
	}
	return out
}

// goods has events that are valid.
func goods() []api.Event {
	var out []api.Event
	for kind := 1; kind <= 7; kind++ {
		values := greatest(kind)
		for _, name := range strings.Fields(allFields) {
			if !slices.Contains(fieldsOf(kind), name) {
				delete(values, name)
			}
		}
		out = append(out, changed(kind, values)...)
		// Headers that are empty, but not nil, are none.
		out = append(out, each(kind, func(x *api.Event) {
			if x.Headers == nil {
				x.Headers = []api.Header{}
			}
		})...)
	}
	for _, code := range codes() {
		out = append(out, each(1, func(x *api.Event) { x.Code = code })...)
	}
	return append(out, slices.Concat(least(), full(), greatestAtOnce())...)
}

// greatestAtOnce has an event of each kind with as much as it may have.
func greatestAtOnce() []api.Event {
	list := slices.Repeat([]api.Header{{Name: long(512), Value: long(2048)}}, 25)
	return []api.Event{
		{Kind: 1, Session: 1 << 20, Tick: 1 << 40, Method: long(512), URL: long(2048), Headers: list, Body: long(2048), Code: allowed, Nonce: long(512)},
		{Kind: 2, Session: 1 << 20, Tick: 1 << 40, Method: long(512), URL: long(2048), Headers: list, Body: long(2048), Code: 2, Cred: true, N: math.MaxUint64},
		{Kind: 3, Session: 1 << 20, Tick: 1 << 40, Headers: list, Body: long(2048), Status: 599},
		{Kind: 4, Session: 1 << 20, Tick: 1 << 40},
		{Kind: 5, Tick: 1 << 40, N: 1 << 40},
		{Kind: 6, Session: 1 << 20, Tick: 1 << 40, N: math.MaxUint64},
		{Kind: 7, Session: 1 << 20, Tick: 1 << 40, Status: 599, Code: 16},
	}
}

// bads has events that are not valid.
func bads() []api.Event {
	var out []api.Event
	for kind := 1; kind <= 7; kind++ {
		out = append(out, changed(kind, outside(kind))...)
	}
	for _, kind := range []int{0, -1, -2, -7, 8, 9, 13, 65, 128, 256 + 4, 1<<16 + 4, 1<<32 + 4, -1<<32 + 4, math.MinInt, math.MinInt + 4, math.MaxInt} {
		for _, x := range slices.Concat(least(), full(), []api.Event{{}}) {
			out = append(out, with(x, func(x *api.Event) { x.Kind = kind }))
		}
	}
	return out
}

func TestNumbers(t *testing.T) {
	if api.MaxSent != 25 || api.MaxSession != 1<<20 || api.MaxTick != 1<<40 || api.MaxBody != 2048 || api.MaxValue != 512 {
		t.Error("a limit has another number")
	}
	if api.EvStart != 1 || api.EvSend != 2 || api.EvAnswer != 3 || api.EvFail != 4 || api.EvTick != 5 || api.EvDraw != 6 || api.EvEnd != 7 || api.EndBasic != 1 || api.EndTurn != 16 {
		t.Error("a kind of events or an end has another number")
	}
	if api.InStart != 1 || api.InAnswer != 2 || api.InFail != 3 || api.InTick != 4 || api.InDraw != 5 || api.Cors != 3 || api.Include != 3 || api.Manual != 3 || api.DestManifest != 10 {
		t.Error("a kind of inputs or a mode has another number")
	}
	if api.OK != 0 || api.ErrArg != 1 || api.ErrOver != 2 || api.ErrForm != 4 || api.ErrNone != 5 || api.ErrShort != 7 || api.ErrOrder != 9 {
		t.Error("an error has another number")
	}
}

// checkGood checks what Good says, and that it leaves x as it is.
func checkGood(t *testing.T, x api.Event, want bool) {
	t.Helper()
	if plainGood(x) != want {
		t.Fatalf("the model of Good(%s) is %v", show(x), !want)
	}
	x = roomy(x)
	before := whole(x.Headers)
	for range 2 {
		if Good(x) != want {
			t.Fatalf("Good(%s) is %v", show(x), !want)
		}
	}
	if !slices.Equal(whole(x.Headers), before) {
		t.Fatalf("Good(%s) changed the headers", show(before))
	}
	// What lies behind the headers' length does not count.
	x.Headers = slices.Concat(x.Headers, slices.Repeat([]api.Header{{Name: long(513)}}, 30))[:len(x.Headers)]
	if Good(x) != want {
		t.Fatalf("Good(%s) is %v, with other headers behind", show(x), !want)
	}
}

func TestGood(t *testing.T) {
	for _, x := range goods() {
		checkGood(t, x, true)
	}
}

func TestNotGood(t *testing.T) {
	for _, x := range bads() {
		checkGood(t, x, false)
	}
}

// TestCodesOfStart has all numbers near those that are Codes, alone and with
// other bits.
func TestCodesOfStart(t *testing.T) {
	right := map[int]bool{}
	for _, code := range codes() {
		right[code] = true
	}
	if len(right) != 270 {
		t.Fatalf("there are %d Codes", len(right))
	}
	for code := -2100; code < 2100; code++ {
		for _, x := range each(1, func(x *api.Event) { x.Code = code }) {
			checkGood(t, x, right[code])
		}
		for bit := 11; bit < 64; bit++ {
			if other := code ^ 1<<bit; Good(api.Event{Kind: 1, Code: other}) {
				t.Fatalf("the Code %d is good", other)
			}
		}
	}
	// The parts of a Code, each with all values and some outside.
	for mode := -1; mode <= 4; mode++ {
		for cred := -1; cred <= 4; cred++ {
			for redirect := -1; redirect <= 4; redirect++ {
				for dest := -1; dest <= 16; dest++ {
					code := mode + 4*cred + 16*redirect + 64*dest
					checkGood(t, api.Event{Kind: 1, Code: code}, right[code])
				}
			}
		}
	}
}

// TestStrange has each field that is not of the kind, alone not zero.
func TestStrange(t *testing.T) {
	for kind := 1; kind <= 7; kind++ {
		for _, name := range strings.Fields(allFields) {
			own := slices.Contains(fieldsOf(kind), name)
			for _, value := range strangeValues(name) {
				for _, x := range each(kind, func(x *api.Event) { field(x, name).Set(reflect.ValueOf(value)) }) {
					if !own {
						checkGood(t, x, false)
					} else if name != "Code" && name != "Status" && name != "N" {
						checkGood(t, x, true)
					}
				}
			}
		}
	}
}

// TestEveryLength has strings of all lengths, and lists.
func TestEveryLength(t *testing.T) {
	for size := range 2100 {
		s := long(size)
		for kind := 1; kind <= 2; kind++ {
			for _, x := range each(kind, func(x *api.Event) { x.Method = s }) {
				checkGood(t, x, size <= 512)
			}
			for _, x := range each(kind, func(x *api.Event) { x.URL = s }) {
				checkGood(t, x, size <= 2048)
			}
		}
		for _, x := range each(1, func(x *api.Event) { x.Nonce = s }) {
			checkGood(t, x, size <= 512)
		}
		for kind := 1; kind <= 3; kind++ {
			for _, x := range each(kind, func(x *api.Event) { x.Body = s }) {
				checkGood(t, x, size <= 2048)
			}
			x := least()[kind-1]
			x.Headers = []api.Header{{Name: s, Value: fmt.Sprint(size)}}
			checkGood(t, x, size <= 512)
			x.Headers = []api.Header{{}, {Name: "a", Value: s}}
			checkGood(t, x, size <= 2048)
			x.Headers = many(size % 60)
			checkGood(t, x, size%60 <= 25)
		}
	}
}
