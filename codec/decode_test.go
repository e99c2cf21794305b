package codec

import (
	"fmt"
	"slices"
	"testing"

	"pursuivant/api"
)

// TestDecode has transcripts of some numbers of events.
func TestDecode(t *testing.T) {
	for _, n := range []int{0, 1, 2, 31, 32, 33, 63, 64, 65, 100, 200, 4095, 4096} {
		for _, list := range [][]api.Event{draws(n), mixed(n), slices.Repeat([]api.Event{fail(1<<20, 1<<40)}, n)} {
			got, e := decode(t, right(t, list))
			if !sameAll(got, list) || len(got) != n || e != api.OK {
				t.Errorf("%d events are restored as %d, %d", n, len(got), e)
			}
		}
	}
}

// fails returns the contents of a group of events at a time.
func fails(t *testing.T, many, tick int) []byte {
	t.Helper()
	return content(t, slices.Repeat([]api.Event{fail(3, tick)}, many)...)
}

// decodeError checks that only Decode, but not Foot, returns an error.
func decodeError(t *testing.T, name string, d *draft, want api.Errno) {
	t.Helper()
	b := d.write()
	if _, _, e := foot(t, b); e != api.OK {
		t.Errorf("%s: Foot returns %d", name, e)
	}
	if list, e := decode(t, b); len(list) != 0 || e != want {
		t.Errorf("%s: Decode returns %s, %d, want %d", name, show(list), e, want)
	}
}

// wrongGroups has encodings that are wrong for a group of 32 events at a time, and
// the errors that tell so.
func wrongGroups(t *testing.T, tick int) map[string]struct {
	b []byte
	e api.Errno
} {
	t.Helper()
	good := fails(t, 32, tick)
	cut := inPieces(good)
	changed := slices.Clone(cut)
	changed[5] ^= 4
	return map[string]struct {
		b []byte
		e api.Errno
	}{
		"nothing":            {nil, api.ErrShort},
		"no events":          {inPieces(nil), api.ErrShort},
		"cut":                {cut[:len(cut)-1], api.ErrShort},
		"changed":            {changed, api.ErrSum},
		"with more":          {append(slices.Clone(cut), 0), api.ErrMore},
		"a long number":      {append([]byte{128, 0}, cut...), api.ErrForm},
		"a great piece":      {append(number(300), cut...), api.ErrOver},
		"short pieces":       {slices.Concat(piece(good[:3]), piece(good[3:]), piece(nil)), api.ErrOrder},
		"an event fewer":     {inPieces(fails(t, 31, tick)), api.ErrShort},
		"an event more":      {inPieces(fails(t, 33, tick)), api.ErrMore},
		"a byte more":        {inPieces(append(slices.Clone(good), 4)), api.ErrMore},
		"a wrong event":      {inPieces(append(fails(t, 31, tick), 9, 0, 0)), api.ErrForm},
		"a string not there": {inPieces(append(fails(t, 31, tick), 3, 0, 0, 200, 1, 9, 0, 0, 0)), api.ErrNone},
	}
}

// TestDecodeGroups has each error of Group, for each of some groups, and another
// one behind it: the first one counts.
func TestDecodeGroups(t *testing.T) {
	const many = 4
	for name, w := range wrongGroups(t, 5) {
		for i := range many {
			d := drafted(32 * many)
			for j := range many {
				if j == i {
					d.group(w.b)
				} else {
					d.group(inPieces(fails(t, 32, 5)))
				}
			}
			decodeError(t, fmt.Sprint(name, " at ", i), d, w.e)
			for other, v := range wrongGroups(t, 5) {
				d := drafted(32 * many)
				for j := range many {
					switch {
					case j == i:
						d.group(w.b)
					case j > i:
						d.group(v.b)
					default:
						d.group(inPieces(fails(t, 32, 5)))
					}
				}
				decodeError(t, fmt.Sprint(name, " at ", i, ", then ", other), d, w.e)
			}
		}
	}
}

// TestDecodeOrder has groups that are early.
func TestDecodeOrder(t *testing.T) {
	for _, c := range []struct {
		ticks []int
		e     api.Errno
	}{
		{[]int{5, 5, 5}, api.OK}, {[]int{0, 0}, api.OK}, {[]int{5, 6, 7}, api.OK}, {[]int{0, 1 << 40, 1 << 40}, api.OK},
		{[]int{5, 4}, api.ErrOrder}, {[]int{5, 0}, api.ErrOrder}, {[]int{5, 4, 5}, api.ErrOrder}, {[]int{5, 6, 5}, api.ErrOrder}, {[]int{5, 6, 0}, api.ErrOrder}, {[]int{1 << 40, 1<<40 - 1}, api.ErrOrder}, {[]int{1, 3, 2}, api.ErrOrder},
	} {
		for _, size := range []int{1, 31, 32} {
			d := drafted(32*(len(c.ticks)-1) + size)
			var list []api.Event
			for i, tick := range c.ticks {
				number := 32
				if i == len(c.ticks)-1 {
					number = size
				}
				d.group(inPieces(fails(t, number, tick)))
				list = append(list, slices.Repeat([]api.Event{fail(3, tick)}, number)...)
			}
			if c.e != api.OK {
				decodeError(t, fmt.Sprint(c.ticks), d, c.e)
			} else if got, e := decode(t, d.write()); !sameAll(got, list) || e != api.OK {
				t.Errorf("%v: %s, %d", c.ticks, show(got), e)
			}
			if _, e := encode(t, list); e != c.e {
				t.Errorf("Encode of %v returns %d, want %d", c.ticks, e, c.e)
			}
		}
	}
	// The last event of a group counts, and the first one of the next.
	slow := content(t, append(slices.Repeat([]api.Event{fail(3, 1)}, 31), fail(3, 9))...)
	for tick, want := range map[int]api.Errno{0: api.ErrOrder, 1: api.ErrOrder, 8: api.ErrOrder, 9: api.OK, 10: api.OK} {
		d := drafted(34, slow, content(t, fail(3, tick), fail(3, 20)))
		if _, e := decode(t, d.write()); e != want {
			t.Errorf("the time %d behind 9: %d, want %d", tick, e, want)
		}
	}
}

// TestDecodeOrderAndGroups has groups that are early, and others that are wrong.
func TestDecodeOrderAndGroups(t *testing.T) {
	for name, w := range wrongGroups(t, 5) {
		early, late := fails(t, 32, 5), fails(t, 32, 6)
		d := drafted(96, late, early)
		d.group(w.b)
		decodeError(t, "early, then "+name, d, api.ErrOrder)
		d = drafted(96, late)
		d.group(w.b)
		d.group(inPieces(early))
		decodeError(t, name+", then early", d, w.e)
		// Both at once: the group is read first.
		d = drafted(64, late)
		d.group(w.b)
		decodeError(t, name+" and early", d, w.e)
	}
}

// TestDecodeOtherGroups has groups of other numbers of events than 32 and the
// remaining ones.
func TestDecodeOtherGroups(t *testing.T) {
	for _, sizes := range [][]int{{31, 33}, {33, 31}, {1, 32}, {31, 2}, {33}, {34}, {16, 16, 1}, {64}, {32, 0, 1}, {0, 32}, {32, 0}, {0}, {40, 40}, {1, 1}, {32, 31, 33}, {30, 32}} {
		many := 0
		var contents [][]byte
		for _, n := range sizes {
			contents = append(contents, fails(t, n, 0))
			many += n
		}
		d := drafted(many, contents...)
		if list, e := decode(t, d.write()); len(list) != 0 || e == api.OK {
			t.Errorf("the groups %v are %d events, %d", sizes, len(list), e)
		}
	}
	// With as many lengths as the number of events needs, the groups are refused.
	decodeError(t, "31 and 33", drafted(64, fails(t, 31, 0), fails(t, 33, 0)), api.ErrShort)
	decodeError(t, "33 and 31", drafted(64, fails(t, 33, 0), fails(t, 31, 0)), api.ErrMore)
	decodeError(t, "32 and 2", drafted(33, fails(t, 32, 0), fails(t, 2, 0)), api.ErrMore)
	decodeError(t, "32 and 1", drafted(34, fails(t, 32, 0), fails(t, 1, 0)), api.ErrShort)
	decodeError(t, "32 and none", drafted(33, fails(t, 32, 0), nil), api.ErrShort)
	decodeError(t, "none and 32", drafted(33, nil, fails(t, 32, 0)), api.ErrShort)
}

// TestDecodeCuts has all beginnings and all ends of transcripts.
func TestDecodeCuts(t *testing.T) {
	for _, n := range []int{0, 1, 33, 70} {
		b := right(t, mixed(n))
		for i := range b {
			if list, e := decode(t, b[:i]); len(list) != 0 || e == api.OK {
				t.Errorf("the first %d bytes of %d events: %d", i, n, e)
			}
			if list, e := decode(t, b[i:]); i > 0 && (len(list) != 0 || e == api.OK) {
				t.Errorf("the bytes from %d on of %d events: %d", i, n, e)
			}
		}
	}
}

// TestDecodeBooks has references between groups, which have Books of their own.
func TestDecodeBooks(t *testing.T) {
	x := api.Event{Kind: 3, Session: 7, Headers: lines("name: value"), Body: "body", Status: 404}
	list := slices.Repeat([]api.Event{x}, 33)
	all := content(t, list...)
	first := content(t, list[:32]...)
	decodeError(t, "one Book for two groups", drafted(33, first, all[len(first):]), api.ErrNone)
	d := drafted(33, first, content(t, x))
	if got, e := decode(t, d.write()); !sameAll(got, list) || e != api.OK {
		t.Errorf("two groups are %s, %d", show(got), e)
	}
}
