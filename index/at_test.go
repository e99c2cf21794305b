package index

import (
	"fmt"
	"math"
	"slices"
	"testing"

	"pursuivant/api"
	"pursuivant/codec"
)

// atEqual checks that At returns exactly these events.
func atEqual(t *testing.T, name string, o *opened, list []api.Event) {
	t.Helper()
	if n := o.x.Count(); n != len(list) {
		t.Errorf("%s: Count is %d, want %d", name, n, len(list))
	}
	for i, want := range list {
		if y, e := o.x.At(i); !same(y, want) || e != api.OK {
			t.Errorf("%s: the event %d is %s, %d, want %s", name, i, show(y), e, show(want))
		}
	}
	o.wholly()
}

// TestAt has each event of transcripts, of one group and of more.
func TestAt(t *testing.T) {
	for _, n := range []int{0, 1, 2, 31, 32, 33, 63, 64, 65, 95, 96, 97, 200} {
		for _, list := range [][]api.Event{draws(n), mixed(n), slices.Repeat([]api.Event{fail(1<<20, 1<<40)}, n)} {
			atEqual(t, fmt.Sprint(n, " events"), right(t, list), list)
		}
	}
	for _, n := range []int{4065, 4096} {
		list := draws(n)
		atEqual(t, fmt.Sprint(n, " events"), right(t, list), list)
	}
}

// TestAtEnds has the first event and the last one of each group.
func TestAtEnds(t *testing.T) {
	o := right(t, draws(96))
	for i, want := range map[int]api.Event{
		0:  {Kind: 6, Session: 0, Tick: 0, N: 0},
		31: {Kind: 6, Session: 1, Tick: 6, N: 31},
		32: {Kind: 6, Session: 2, Tick: 6, N: 32},
		63: {Kind: 6, Session: 0, Tick: 12, N: 63},
		64: {Kind: 6, Session: 1, Tick: 12, N: 64},
		95: {Kind: 6, Session: 2, Tick: 19, N: 95},
	} {
		if y, e := o.x.At(i); !same(y, want) || e != api.OK {
			t.Errorf("the event %d is %s, %d, want %s", i, show(y), e, show(want))
		}
	}
}

// TestAtFortieth has the 40th event, which is the 8th one of the second group.
func TestAtFortieth(t *testing.T) {
	for _, list := range [][]api.Event{draws(70), mixed(70), draws(40)} {
		b, _ := codec.Encode(list)
		_, places, _ := codec.Foot(b)
		second, _ := codec.Group(b, places[1], places[2], min(32, len(list)-32))
		y, e := must(t, b).x.At(39)
		if !same(y, list[39]) || !same(y, second[7]) || e != api.OK {
			t.Errorf("the 40th event is %s, %d, the 8th one of the second group %s", show(y), e, show(second[7]))
		}
	}
}

// outside has what is no index of n events.
func outside(n int) []int {
	return []int{math.MinInt, math.MinInt + 1, math.MinInt + 32, -1 << 62, -1 << 32, -1<<32 + 1, -4096, -33, -32, -31, -2, -1, n, n + 1, n + 31, n + 32, n + 33, n + 4096, 5000, 1 << 32, 1<<32 + 1, 1 << 62, math.MaxInt - 32, math.MaxInt - 1, math.MaxInt}
}

// atRange checks that there is no event outside n.
func atRange(t *testing.T, name string, o *opened, n int) {
	t.Helper()
	for _, i := range outside(n) {
		if y, e := o.x.At(i); !same(y, api.Event{}) || e != api.ErrRange {
			t.Errorf("%s: the event %d of %d is %s, %d", name, i, n, show(y), e)
		}
		o.at(i)
	}
}

// TestAtRange has what is no index, also where all groups are wrong.
func TestAtRange(t *testing.T) {
	for _, n := range []int{0, 1, 2, 31, 32, 33, 63, 64, 65, 96, 97, 4095, 4096} {
		atRange(t, "right", right(t, draws(n)), n)
		for name, w := range wrongGroups(t, 5) {
			d := drafted(n)
			for range (n + 31) / 32 {
				d.group(w.b)
			}
			o := must(t, d.write())
			atRange(t, name, o, n)
			if n > 0 {
				if _, e := o.at(n - 1); e == api.ErrRange {
					t.Errorf("%s: there is no last event of %d", name, n)
				}
			}
		}
	}
}

// wrong is the encoding of a group, and the error that it leads to.
type wrong struct {
	b []byte
	e api.Errno
}

// wrongGroups has encodings that are wrong for a group of 32 events at a time.
func wrongGroups(t *testing.T, tick int) map[string]wrong {
	t.Helper()
	good := fails(t, 32, tick)
	all := inPieces(good)
	changed := func(at int, by byte) []byte {
		b := slices.Clone(all)
		b[at] ^= by
		return b
	}
	behind := func(b ...byte) []byte { return inPieces(append(fails(t, 31, tick), b...)) }
	return map[string]wrong{
		"nothing":              {nil, api.ErrShort},
		"no events":            {inPieces(nil), api.ErrShort},
		"cut":                  {all[:len(all)-1], api.ErrShort},
		"without its end":      {all[:len(all)-5], api.ErrShort},
		"half":                 {all[:len(all)/2], api.ErrShort},
		"changed":              {changed(5, 4), api.ErrSum},
		"changed at the start": {changed(1, 1), api.ErrSum},
		"changed at the end":   {changed(len(all)-1, 128), api.ErrSum},
		"with more":            {append(slices.Clone(all), 0), api.ErrMore},
		"twice":                {slices.Repeat(all, 2), api.ErrMore},
		"a long number":        {append([]byte{128, 0}, all...), api.ErrForm},
		"an endless number":    {slices.Repeat([]byte{255}, 30), api.ErrForm},
		"a great piece":        {append(number(300), all...), api.ErrOver},
		"short pieces":         {slices.Concat(piece(good[:3]), piece(good[3:]), piece(nil)), api.ErrOrder},
		"31 events":            {inPieces(fails(t, 31, tick)), api.ErrShort},
		"33 events":            {inPieces(fails(t, 33, tick)), api.ErrMore},
		"a byte more":          {inPieces(append(slices.Clone(good), 4)), api.ErrMore},
		"no kind":              {behind(9, 0, 0), api.ErrForm},
		"neither 0 nor 1":      {behind(2, 3, 0, 1, 2), api.ErrForm},
		"no status":            {behind(3, 3, 0, 99, 0, 0, 0, 0, 0), api.ErrForm},
		"a string not there":   {behind(3, 3, 0, 200, 1, 9, 0, 0, 0), api.ErrNone},
		"a long string":        {behind(append([]byte{3, 3, 0, 200, 1, 0}, number(2049)...)...), api.ErrOver},
		"too many headers":     {behind(3, 3, 0, 200, 1, 0, 0, 0, 0, 26), api.ErrOver},
		"an event that ends":   {behind(4, 3), api.ErrShort},
	}
}

// TestAtGroups has each error of Group in each of some groups: the events of that
// group are not there, and all others are.
func TestAtGroups(t *testing.T) {
	const groups = 4
	for name, w := range wrongGroups(t, 5) {
		for place := range groups {
			d := drafted(32 * groups)
			for i := range groups {
				if i == place {
					d.group(w.b)
				} else {
					d.group(inPieces(fails(t, 32, i)))
				}
			}
			o := must(t, d.write())
			for i := range 32 * groups {
				want, wantE := fail(3, i/32), api.OK
				if i/32 == place {
					want, wantE = api.Event{}, w.e
				}
				if y, e := o.x.At(i); !same(y, want) || e != wantE {
					t.Errorf("%s, the group %d: the event %d is %s, %d, want %s, %d", name, place, i, show(y), e, show(want), wantE)
				}
			}
			o.wholly()
		}
	}
}

// TestAtGroupsAll has another error in each of some groups.
func TestAtGroupsAll(t *testing.T) {
	d := drafted(32 * len(wrongGroups(t, 5)))
	var wants []api.Errno
	for _, w := range wrongGroups(t, 5) {
		d.group(w.b)
		wants = append(wants, w.e)
	}
	o := must(t, d.write())
	for i := range 32 * len(wants) {
		if y, e := o.x.At(i); !same(y, api.Event{}) || e != wants[i/32] {
			t.Errorf("the event %d is %s, %d, want %d", i, show(y), e, wants[i/32])
		}
	}
	o.wholly()
}

// TestAtOtherNumbers has groups of more or fewer events than the footer says.
func TestAtOtherNumbers(t *testing.T) {
	for _, many := range []int{1, 2, 31, 32, 33, 34, 63, 64, 65, 70} {
		groups := (many + 31) / 32
		for other := range groups {
			for _, n := range []int{0, 1, 2, 5, 6, 7, 30, 31, 32, 33, 34, 64, 65, 100} {
				d := drafted(many)
				for i := range groups {
					size := min(32, many-32*i)
					if i == other {
						size = n
					}
					d.group(inPieces(fails(t, size, 7)))
				}
				o := must(t, d.write())
				for i := range many {
					want := api.OK
					if size := min(32, many-32*other); i/32 == other && n < size {
						want = api.ErrShort
					} else if i/32 == other && n > size {
						want = api.ErrMore
					}
					if y, e := o.x.At(i); e != want || e == api.OK && !same(y, fail(3, 7)) || e != api.OK && !same(y, api.Event{}) {
						t.Errorf("%d events in the group %d of %d: the event %d is %s, %d, want %d", n, other, many, i, show(y), e, want)
					}
				}
				o.wholly()
			}
		}
	}
}

// TestAtAlone has groups that are right, each by itself, but not together.
func TestAtAlone(t *testing.T) {
	// The second group is ahead of the first one.
	o := must(t, drafted(64, fails(t, 32, 9), fails(t, 32, 5)).write())
	for i, want := range slices.Concat(slices.Repeat([]api.Event{fail(3, 9)}, 32), slices.Repeat([]api.Event{fail(3, 5)}, 32)) {
		if y, e := o.x.At(i); !same(y, want) || e != api.OK {
			t.Errorf("the event %d is %s, %d, want %s", i, show(y), e, show(want))
		}
	}
	o.wholly()
	// Each group has a Book of its own.
	x := api.Event{Kind: 3, Session: 7, Tick: 300, Headers: lines("name: value"), Body: "body", Status: 404}
	list := slices.Repeat([]api.Event{x}, 70)
	atEqual(t, "equal events", right(t, list), list)
	all := content(t, list[:64]...)
	first := content(t, list[:32]...)
	o = must(t, drafted(64, first, all[len(first):]).write())
	for i := range 64 {
		want := api.OK
		if i >= 32 {
			want = api.ErrNone
		}
		if _, e := o.x.At(i); e != want {
			t.Errorf("one Book for two groups: the event %d: %d, want %d", i, e, want)
		}
	}
	o.wholly()
}

// TestAtEveryByte has each other value of each byte of the groups: the group that
// has it is wrong, and all others are there.
func TestAtEveryByte(t *testing.T) {
	good, _ := codec.Encode(draws(70))
	_, places, _ := codec.Foot(good)
	for group := range 3 {
		for at := places[group]; at < places[group+1]; at++ {
			for _, by := range []byte{1, 2, 3, 4, 8, 16, 32, 64, 128, 255, byte(at) | 1} {
				b := slices.Clone(good)
				b[at] ^= by
				o := must(t, b)
				for _, i := range []int{0, 31, 32, 39, 63, 64, 69} {
					y, e := o.at(i)
					if i/32 == group && e == api.OK || i/32 != group && (e != api.OK || y.N != uint64(i)) {
						t.Errorf("the byte %d is %d: the event %d is %s, %d", at, b[at], i, show(y), e)
					}
				}
			}
		}
	}
}

// TestAtHeaders has events whose headers the caller changes.
func TestAtHeaders(t *testing.T) {
	list := lines("a: 1", "b: 2", "c: 3")
	var events []api.Event
	for i := range 40 {
		events = append(events, api.Event{Kind: 3, Session: 1, Tick: i, Status: 200, Headers: list[:i%4]})
	}
	x := right(t, events).x
	for range 3 {
		var got []api.Event
		for i := range events {
			y, e := x.At(i)
			if !same(y, events[i]) || e != api.OK {
				t.Fatalf("the event %d is %s, %d, want %s", i, show(y), e, show(events[i]))
			}
			got = append(got, y)
		}
		for i, y := range got {
			if !same(y, events[i]) {
				t.Fatalf("the event %d became %s, want %s", i, show(y), show(events[i]))
			}
			fill(y.Headers, api.Header{Name: "filled", Value: "filled"})
		}
	}
}
