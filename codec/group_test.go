package codec

import (
	"bytes"
	"fmt"
	"math"
	"slices"
	"testing"

	"pursuivant/api"
)

// groupError checks the error of Group of events whose encoding is content.
func groupError(t *testing.T, name string, b []byte, many int, want api.Errno) {
	t.Helper()
	for _, ahead := range []string{"", "PV1", "\x00\x00\x00\x00\x00"} {
		for _, behind := range []string{"", "\x00", "behind"} {
			all := slices.Concat([]byte(ahead), b, []byte(behind))
			if list, e := group(t, all, len(ahead), len(ahead)+len(b), many); len(list) != 0 || e != want {
				t.Errorf("%s, behind %q, ahead of %q: %s, %d, want %d", name, ahead, behind, show(list), e, want)
			}
		}
	}
}

// TestGroup has the groups of transcripts, and other parts of bytes.
func TestGroup(t *testing.T) {
	for _, n := range []int{1, 2, 31, 32, 33, 64, 65, 100} {
		for _, list := range [][]api.Event{draws(n), mixed(n)} {
			b := right(t, list)
			_, places, _ := foot(t, b)
			for i, part := range slices.Collect(slices.Chunk(list, 32)) {
				got, e := group(t, b, places[i], places[i+1], len(part))
				if !sameAll(got, part) || e != api.OK {
					t.Errorf("the group %d of %d events is %s, %d", i, n, show(got), e)
				}
			}
		}
	}
	for _, list := range [][]api.Event{nil, draws(1), mixed(33), mixed(100), draws(5000)} {
		b := inPieces(content(t, list...))
		for _, ahead := range []int{0, 1, 3, 300} {
			for _, behind := range []int{0, 1, 300} {
				all := slices.Concat(make([]byte, ahead), b, make([]byte, behind))
				got, e := group(t, all, ahead, ahead+len(b), len(list))
				if !sameAll(got, list) || e != api.OK {
					t.Errorf("a group of %d events behind %d bytes is %s, %d", len(list), ahead, show(got), e)
				}
			}
		}
	}
	// All groups at once are not one: each has pieces of its own.
	b := right(t, draws(64))
	_, places, _ := foot(t, b)
	for _, many := range []int{32, 64} {
		if list, e := group(t, b, places[0], places[2], many); len(list) != 0 || e != api.ErrMore {
			t.Errorf("two groups as one of %d: %s, %d", many, show(list), e)
		}
	}
}

// TestGroupArg has parts that are none.
func TestGroupArg(t *testing.T) {
	b := right(t, draws(33))
	size := len(b)
	extremes := []int{math.MinInt, math.MinInt + 1, -1 << 32, -1, 0, 1, 3, 4, size - 1, size, size + 1, 1 << 32, math.MaxInt - 1, math.MaxInt}
	for _, b := range [][]byte{nil, {}, {0}, b} {
		for _, from := range extremes {
			for _, to := range extremes {
				for _, many := range []int{math.MinInt, -1, 0, 1, 32, math.MaxInt} {
					list, e := group(t, b, from, to, many)
					if wrong := from < 0 || to < from || to > len(b); wrong != (e == api.ErrArg) || len(list) != 0 {
						t.Fatalf("the part from %d to %d of %d bytes: %s, %d", from, to, len(b), show(list), e)
					}
				}
			}
		}
	}
	for _, c := range [][2]int{{-1, 3}, {-1, -1}, {4, 3}, {0, size + 1}, {size + 1, size + 1}, {size + 1, size + 2}, {size, size - 1}} {
		if list, e := group(t, b, c[0], c[1], 32); len(list) != 0 || e != api.ErrArg {
			t.Errorf("the part from %d to %d: %s, %d", c[0], c[1], show(list), e)
		}
	}
	for at := range size + 1 {
		if list, e := group(t, b, at, at, 0); len(list) != 0 || e != api.ErrShort {
			t.Errorf("the empty part at %d: %s, %d", at, show(list), e)
		}
	}
	if list, e := group(t, nil, 0, 0, 0); len(list) != 0 || e != api.ErrShort {
		t.Errorf("the empty part of nil: %s, %d", show(list), e)
	}
}

// TestGroupPieces has each error of Unpack.
func TestGroupPieces(t *testing.T) {
	inside := content(t, fail(1, 2), fail(3, 4))
	good := inPieces(inside)
	changed := func(at int, by byte) []byte {
		b := slices.Clone(good)
		b[at] ^= by
		return b
	}
	for _, many := range []int{-1, 0, 1, 2, 3} {
		for size := range len(good) {
			groupError(t, fmt.Sprint("the first ", size), good[:size], many, api.ErrShort)
		}
		groupError(t, "a long number", append([]byte{128, 0}, good...), many, api.ErrForm)
		groupError(t, "an endless number", bytes.Repeat([]byte{128}, 20), many, api.ErrForm)
		groupError(t, "a great piece", append(number(257), make([]byte, 400)...), many, api.ErrOver)
		groupError(t, "short pieces", slices.Concat(piece(inside[:3]), piece(inside[3:]), piece(nil)), many, api.ErrOrder)
		groupError(t, "the number", changed(0, 2), many, api.ErrSum)
		groupError(t, "the content", changed(2, 2), many, api.ErrSum)
		groupError(t, "the checksum", changed(7, 2), many, api.ErrSum)
		groupError(t, "the last checksum", changed(len(good)-1, 2), many, api.ErrSum)
		for size := 1; size < 20; size++ {
			groupError(t, fmt.Sprint("more behind: ", size), append(slices.Clone(good), make([]byte, size)...), many, api.ErrMore)
		}
		groupError(t, "twice", slices.Repeat(good, 2), many, api.ErrMore)
		groupError(t, "an empty one ahead", append(piece(nil), good...), many, api.ErrMore)
	}
	// The errors of Unpack come ahead of those of Take, and pieces that end too
	// early do as well.
	wrong := inPieces([]byte{9, 0, 0})
	groupError(t, "a wrong event", wrong, 1, api.ErrForm)
	groupError(t, "a wrong event, and more", append(slices.Clone(wrong), 0), 1, api.ErrMore)
	groupError(t, "a wrong event, cut", wrong[:len(wrong)-1], 1, api.ErrShort)
	wrong[len(wrong)-1] ^= 1
	groupError(t, "a wrong event and checksum", wrong, 1, api.ErrSum)
}

// TestGroupParts has all parts of the bytes of a transcript.
func TestGroupParts(t *testing.T) {
	b := right(t, []api.Event{fail(1, 2), fail(3, 4)})
	found := 0
	for from := range len(b) + 1 {
		for to := from; to <= len(b); to++ {
			for many := -1; many < 4; many++ {
				if list, e := group(t, b, from, to, many); e == api.OK && many > 0 {
					found++
					if many != 2 || from != 3 || to != 19 || len(list) != 2 {
						t.Errorf("the part from %d to %d has %d events: %s", from, to, many, show(list))
					}
				}
			}
		}
	}
	if found != 1 {
		t.Errorf("%d parts have events", found)
	}
}

// TestGroupEvents has each error of a Book's Take at each place of a group.
func TestGroupEvents(t *testing.T) {
	const great = math.MaxUint64
	for name, c := range map[string]struct {
		b []byte
		e api.Errno
	}{
		"no kind":            {[]byte{0, 0, 0}, api.ErrForm},
		"a far kind":         {[]byte{8}, api.ErrForm},
		"a long kind":        {[]byte{132, 0, 0, 0}, api.ErrForm},
		"cut kind":           {[]byte{132}, api.ErrShort},
		"cut behind kind":    {[]byte{4}, api.ErrShort},
		"cut behind session": {[]byte{4, 0}, api.ErrShort},
		"great session":      {slices.Concat([]byte{4}, number(1<<20+1), []byte{0}), api.ErrForm},
		"late":               {slices.Concat([]byte{4, 0}, number(1<<40)), api.ErrForm},
		"later than all":     {slices.Concat([]byte{4, 0}, number(great)), api.ErrForm},
		"no string":          {[]byte{3, 0, 0, 200, 1, 99, 0, 0, 0}, api.ErrNone},
		"no headers":         {[]byte{3, 9, 0, 200, 1, 0, 0, 1, 0, 0}, api.ErrNone},
		"long string":        {append([]byte{3, 0, 0, 200, 1, 0}, number(2049)...), api.ErrOver},
		"many headers":       {[]byte{3, 9, 0, 200, 1, 0, 0, 0, 0, 26}, api.ErrOver},
		"no status":          {[]byte{3, 9, 0, 99, 0, 0, 0, 0, 0}, api.ErrForm},
		"neither 0 nor 1":    {[]byte{2, 9, 0, 1, 2}, api.ErrForm},
		"no end":             {[]byte{7, 9, 0, 0, 0}, api.ErrForm},
	} {
		for _, ahead := range []int{0, 1, 2, 15, 31, 32, 40} {
			for _, behind := range []int{0, 1, 30} {
				inside := content(t, slices.Repeat([]api.Event{fail(9, 1)}, ahead)...)
				if ahead == 0 && name == "late" {
					continue // 2^40 is not too late for a first event
				}
				inside = append(inside, c.b...)
				if c.e != api.ErrShort {
					inside = append(inside, bytes.Repeat([]byte{4, 0, 0}, behind)...)
				}
				b := inPieces(inside)
				groupError(t, name, b, ahead+1+behind, c.e)
				groupError(t, name+", read alone", b, ahead+1, c.e)
				groupError(t, name+", endlessly", b, math.MaxInt, c.e)
				for _, many := range []int{ahead, ahead - 1, 0, -1, math.MinInt} {
					groupError(t, name+", not read", b, many, api.ErrMore)
				}
			}
		}
	}
	// Two that are wrong: the first one counts.
	b := inPieces([]byte{4, 0, 0, 3, 0, 0, 200, 1, 99, 0, 0, 0, 9, 0, 0})
	groupError(t, "two wrong ones", b, 3, api.ErrNone)
}

// TestGroupMany has other numbers of events than a group has.
func TestGroupMany(t *testing.T) {
	for _, n := range []int{0, 1, 2, 31, 32, 33, 70} {
		list := mixed(n)
		b := inPieces(content(t, list...))
		for many := -3; many < n+4; many++ {
			got, e := group(t, b, 0, len(b), many)
			switch {
			case max(many, 0) == n:
				if !sameAll(got, list) || e != api.OK {
					t.Errorf("%d of %d events are %s, %d", many, n, show(got), e)
				}
			case many < n && e != api.ErrMore, many > n && e != api.ErrShort:
				t.Errorf("%d of %d events: %d", many, n, e)
			}
		}
		for many, want := range map[int]api.Errno{math.MaxInt: api.ErrShort, math.MaxInt - 1: api.ErrShort, 1 << 32: api.ErrShort, 1<<32 + n: api.ErrShort, math.MinInt: api.ErrMore, math.MinInt + n: api.ErrMore, -1 << 32: api.ErrMore} {
			if n == 0 && want == api.ErrMore {
				want = api.OK
			}
			if got, e := group(t, b, 0, len(b), many); len(got) != 0 || e != want {
				t.Errorf("%d of %d events: %s, %d", many, n, show(got), e)
			}
		}
	}
}

// TestGroupNewBook has groups that refer to nothing ahead of them.
func TestGroupNewBook(t *testing.T) {
	x := api.Event{Kind: 3, Session: 7, Tick: 300, Headers: lines("name: value"), Body: "body", Status: 404}
	list := slices.Repeat([]api.Event{x}, 64)
	b := right(t, list)
	_, places, _ := foot(t, b)
	// The second one alone, without the bytes of the first.
	alone := b[places[1]:places[2]]
	if got, e := group(t, alone, 0, len(alone), 32); !sameAll(got, list[32:]) || e != api.OK {
		t.Errorf("the second group alone is %s, %d", show(got), e)
	}
	first, _ := Group(b, places[0], places[1], 32)
	second, _ := Group(b, places[1], places[2], 32)
	if !sameAll(first, second) {
		t.Errorf("equal groups are %s and %s", show(first), show(second))
	}
	// A time of a group that is below that of the one ahead of it.
	early := inPieces(content(t, fail(0, 5), fail(0, 6)))
	d := drafted(34)
	d.group(inPieces(content(t, slices.Repeat([]api.Event{fail(0, 100)}, 32)...)))
	d.group(early)
	b = d.write()
	_, places, _ = foot(t, b)
	if got, e := group(t, b, places[1], places[2], 2); !sameAll(got, []api.Event{fail(0, 5), fail(0, 6)}) || e != api.OK {
		t.Errorf("an early group is %s, %d", show(got), e)
	}
}
