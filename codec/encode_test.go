package codec

import (
	"bytes"
	"slices"
	"strings"
	"testing"

	"pursuivant/api"
)

// fail returns an event that needs three bytes, if it is at most 127 later than
// the one before it.
func fail(session, tick int) api.Event {
	return api.Event{Kind: api.EvFail, Session: session, Tick: tick}
}

// draws returns events with numbers of their own, the last ones of which are
// later.
func draws(many int) []api.Event {
	var out []api.Event
	for i := range many {
		out = append(out, api.Event{Kind: api.EvDraw, Session: i % 3, Tick: i / 5, N: uint64(i)})
	}
	return out
}

// mixed returns events of all kinds.
func mixed(many int) []api.Event {
	list := lines("A: 1", "b: 2", "A: 3")
	var out []api.Event
	for i := range many {
		n, headers := i%4, list[:i%len(list)]
		out = append(out, []api.Event{
			{Kind: 1, Session: n, Method: "GET", URL: long(i % 50), Headers: headers, Body: long(i % 2049), Code: 1 + 4 + 16 + 64, Nonce: "n"},
			{Kind: 2, Session: n, Method: "PUT", URL: "http://b/", Headers: headers, Code: 2, Cred: i%2 == 0, N: uint64(i) << 40},
			{Kind: 3, Session: n, Headers: headers, Body: "body", Status: 200 + n},
			{Kind: 4, Session: 1 << 20},
			{Kind: 5, N: uint64(i)},
			{Kind: 6, Session: n, N: 1 << 63},
			{Kind: 7, Session: n, Status: i % 600, Code: 16},
		}[i%7])
		out[i].Tick = i * i
	}
	return out
}

// right encodes events that are so.
func right(t *testing.T, list []api.Event) []byte {
	t.Helper()
	b, e := encode(t, list)
	if e != api.OK {
		t.Fatalf("Encode(%s) returns the error %d", show(list), e)
	}
	return b
}

func TestNumbers(t *testing.T) {
	if api.MaxEvents != 4096 || api.MaxPiece != 256 {
		t.Error("a limit has another number")
	}
	if api.OK != 0 || api.ErrArg != 1 || api.ErrOver != 2 || api.ErrText != 3 || api.ErrForm != 4 || api.ErrNone != 5 || api.ErrSum != 6 || api.ErrShort != 7 || api.ErrMore != 8 || api.ErrOrder != 9 || api.ErrRange != 13 {
		t.Error("an error has another number")
	}
}

// TestEncodeNone has all bytes of the transcript of no events.
func TestEncodeNone(t *testing.T) {
	want := []byte{
		80, 86, 49,
		1, 0, 190, 35, 194, 88, // the footer: no events
		0, 141, 239, 2, 210,
		3, 0, 0, 0, // where the footer begins
		242, 112, 241, 51,
	}
	for _, list := range [][]api.Event{nil, {}, mixed(3)[:0]} {
		if got := right(t, list); !bytes.Equal(got, want) || len(got) != 22 {
			t.Errorf("the transcript of no events is %v", got)
		}
	}
}

// TestEncodeWritten has all bytes of short transcripts.
func TestEncodeWritten(t *testing.T) {
	for _, c := range []struct {
		list []api.Event
		want []byte
	}{
		{[]api.Event{fail(3, 5)}, slices.Concat(
			[]byte{80, 86, 49},
			[]byte{3, 4, 3, 5, 98, 127, 191, 111, 0, 141, 239, 2, 210},
			[]byte{2, 1, 13, 128, 64, 111, 155, 0, 141, 239, 2, 210},
			[]byte{16, 0, 0, 0, 131, 136, 93, 113},
		)},
		{[]api.Event{{Kind: 5, Tick: 300, N: 300}, {Kind: 7, Session: 1, Tick: 300, Code: 15}, {Kind: 6, Tick: 301, N: 1}}, slices.Concat(
			[]byte{80, 86, 49},
			piece([]byte{5, 0, 172, 2, 172, 2, 7, 1, 0, 15, 0, 6, 0, 1, 1}), piece(nil),
			piece([]byte{3, 25}), piece(nil),
			last(28),
		)},
		{slices.Repeat([]api.Event{fail(0, 9)}, 33), slices.Concat(
			[]byte{80, 86, 49},
			piece(append([]byte{4, 0, 9}, bytes.Repeat([]byte{4, 0, 0}, 31)...)), piece(nil),
			piece([]byte{4, 0, 9}), piece(nil),
			piece([]byte{33, 106, 13}), piece(nil),
			last(122),
		)},
	} {
		if got := right(t, c.list); !bytes.Equal(got, c.want) {
			t.Errorf("the transcript of %s is %v, want %v", show(c.list), got, c.want)
		}
	}
}

// TestEncodeGroups has all numbers of events up to some groups, and then those at
// the limit.
func TestEncodeGroups(t *testing.T) {
	for n := range 200 {
		right(t, draws(n))
		right(t, mixed(n))
	}
	for _, n := range []int{1023, 1024, 1025, 4063, 4064, 4065, 4094, 4095, 4096} {
		right(t, draws(n))
	}
	for n, groups := range map[int]int{0: 0, 1: 1, 31: 1, 32: 1, 33: 2, 64: 2, 65: 3, 4096: 128} {
		b := right(t, draws(n))
		if many, places, e := foot(t, b); many != n || len(places) != groups+1 || e != api.OK {
			t.Errorf("%d events are %d in %d groups, %d", n, many, len(places)-1, e)
		}
	}
}

// TestEncodeFootInPieces has a footer that one piece has no room for.
func TestEncodeFootInPieces(t *testing.T) {
	list := slices.Repeat([]api.Event{fail(0, 0)}, 4096)
	foot := []byte{128, 32}
	want := []byte{80, 86, 49}
	for range 128 {
		group := slices.Concat(piece(bytes.Repeat([]byte{4, 0, 0}, 32)), piece(nil))
		want = append(want, group...)
		foot = append(foot, byte(len(group)))
	}
	if len(foot) != 130 {
		t.Fatalf("the footer has %d bytes", len(foot))
	}
	want = slices.Concat(want, piece(foot), piece(nil), last(uint32(len(want))))
	if got := right(t, list); !bytes.Equal(got, want) {
		t.Errorf("the transcript of %d equal events is wrong", len(list))
	}
	for i := range list {
		list[i].Session = 1 << 20
		list[i].Tick = i << 20
	}
	foot, want = []byte{128, 32}, []byte{80, 86, 49}
	for part := range slices.Chunk(list, 32) {
		group := inPieces(content(t, part...))
		want = append(want, group...)
		foot = append(foot, number(uint64(len(group)))...)
	}
	if len(foot) != 258 {
		t.Fatalf("the footer has %d bytes", len(foot))
	}
	want = slices.Concat(want, piece(foot[:256]), piece(foot[256:]), piece(nil), last(uint32(len(want))))
	if got := right(t, list); !bytes.Equal(got, want) {
		t.Errorf("the transcript of %d late events is wrong", len(list))
	}
}

// TestEncodeOver has too many events, right ones and wrong ones.
func TestEncodeOver(t *testing.T) {
	for _, n := range []int{4097, 4098, 5000, 8192} {
		for _, list := range [][]api.Event{draws(n), make([]api.Event, n), slices.Repeat([]api.Event{fail(0, 2), fail(0, 1)}, n)[:n]} {
			if _, e := encode(t, list); e != api.ErrOver {
				t.Errorf("%d events: %d, want ErrOver", n, e)
			}
		}
	}
	for _, x := range []api.Event{{}, fail(0, -1), fail(0, 0)} {
		list := draws(4096)
		list[4095] = x
		if _, e := encode(t, list); e != api.ErrForm && e != api.ErrOrder {
			t.Errorf("4096 events with a wrong one: %d", e)
		}
	}
}

// wrongs has what makes an event incorrect, behind one of the time 100, and the
// error that tells so.
func wrongs() map[string]struct {
	x api.Event
	e api.Errno
} {
	return map[string]struct {
		x api.Event
		e api.Errno
	}{
		"zero":              {api.Event{}, api.ErrForm},
		"no kind":           {api.Event{Kind: 8, Tick: 100}, api.ErrForm},
		"a strange field":   {api.Event{Kind: 4, Tick: 100, Body: "b"}, api.ErrForm},
		"many headers":      {api.Event{Kind: 3, Tick: 100, Status: 200, Headers: make([]api.Header, 26)}, api.ErrForm},
		"great session":     {fail(1<<20+1, 100), api.ErrForm},
		"great tick":        {fail(0, 1<<40+1), api.ErrForm},
		"negative tick":     {fail(0, -1), api.ErrForm},
		"early":             {fail(0, 99), api.ErrOrder},
		"much too early":    {fail(0, 0), api.ErrOrder},
		"early and invalid": {api.Event{Kind: 4, Tick: 99, Body: "b"}, api.ErrForm},
	}
}

// TestEncodeWrong has an incorrect event at each place, and a second one behind
// it: the first one counts.
func TestEncodeWrong(t *testing.T) {
	for name, first := range wrongs() {
		for _, n := range []int{2, 31, 32, 33, 64, 65, 70} {
			base := slices.Repeat([]api.Event{fail(0, 100)}, n)
			for i := 1; i < n; i++ {
				list := slices.Clone(base)
				list[i] = first.x
				if _, e := encode(t, list); e != first.e {
					t.Errorf("%s at %d of %d: %d, want %d", name, i, n, e, first.e)
				}
			}
		}
		places := []int{1, 2, 30, 31, 32, 33, 34, 63, 64, 65, 66}
		for at, i := range places {
			for other, second := range wrongs() {
				for _, j := range places[at+1:] {
					list := slices.Repeat([]api.Event{fail(0, 100)}, 67)
					list[i], list[j] = first.x, second.x
					if b, e := Encode(list); b != nil || e != first.e {
						t.Fatalf("%s at %d and %s at %d: %d, want %d", name, i, other, j, e, first.e)
					}
				}
			}
		}
	}
}

// TestEncodeWrongFirst has an incorrect event ahead of all others: nothing is too
// early there.
func TestEncodeWrongFirst(t *testing.T) {
	for name, w := range wrongs() {
		want := w.e
		if want == api.ErrOrder {
			want = api.OK
		}
		for _, n := range []int{0, 1, 31, 32, 64} {
			list := append([]api.Event{w.x}, slices.Repeat([]api.Event{fail(0, 100)}, n)...)
			if _, e := encode(t, list); e != want {
				t.Errorf("%s ahead of %d others: %d, want %d", name, n, e, want)
			}
		}
	}
}

// TestEncodeTicks has the time go on, stay and go back between the events around
// the places where groups begin.
func TestEncodeTicks(t *testing.T) {
	for i := 1; i < 100; i++ {
		for _, by := range []int{-1 << 40, -2, -1, 0, 1, 2, 1<<40 - 5} {
			list := slices.Repeat([]api.Event{fail(0, 5)}, 100)
			for j := i; j < 100; j++ {
				list[j].Tick += by
			}
			want := api.OK
			if by < 0 {
				want = api.ErrOrder
			}
			if list[i].Tick < 0 {
				want = api.ErrForm
			}
			if _, e := encode(t, list); e != want {
				t.Errorf("later by %d at %d: %d, want %d", by, i, e, want)
			}
		}
	}
	// One event that is later than all others.
	for i := range 100 {
		list := slices.Repeat([]api.Event{fail(0, 5)}, 100)
		list[i].Tick = 9
		want := api.ErrOrder
		if i == 99 {
			want = api.OK
		}
		if _, e := encode(t, list); e != want {
			t.Errorf("the latest one at %d: %d, want %d", i, e, want)
		}
	}
	// An event that is early only behind one of the groups ahead of the last.
	list := slices.Concat(slices.Repeat([]api.Event{fail(0, 1)}, 32), slices.Repeat([]api.Event{fail(0, 9)}, 32), slices.Repeat([]api.Event{fail(0, 8)}, 32))
	if _, e := encode(t, list); e != api.ErrOrder {
		t.Errorf("a third group that is early: %d, want ErrOrder", e)
	}
}

// TestEncodeNewBook has texts, lists and times that occur in two groups: they are
// written in full in both.
func TestEncodeNewBook(t *testing.T) {
	x := api.Event{Kind: 3, Session: 7, Tick: 300, Headers: lines("name: value"), Body: "body", Status: 404}
	full := []byte("\x03\x07\xac\x02\x94\x03\x00\x04body\x00\x00\x01\x00\x04name\x00\x05value")
	short := []byte{3, 7, 0, 148, 3, 1, 1, 0, 0}
	first := append(slices.Clone(full), bytes.Repeat(short, 31)...)
	d := drafted(65, first, first, full)
	if got := right(t, slices.Repeat([]api.Event{x}, 65)); !bytes.Equal(got, d.write()) {
		t.Errorf("the transcript is %v, want %v", got, d.write())
	}
}

// TestEncodeLengths has groups of which one piece has just room for the bytes, or
// not any more.
func TestEncodeLengths(t *testing.T) {
	for size := range 1100 {
		list := []api.Event{{Kind: 3, Status: 127, Body: strings.Repeat("b", size)}, fail(0, 0)}
		inside := slices.Concat([]byte{3, 0, 0, 127, 0}, number(uint64(size)), []byte(list[0].Body), []byte{0, 0, 0, 4, 0, 0})
		d := drafted(2, inside)
		if got := right(t, list); !bytes.Equal(got, d.write()) {
			t.Fatalf("the transcript of %d bytes is %v, want %v", len(inside), got, d.write())
		}
		if len(inside) == 256 {
			if want := slices.Concat([]byte{80, 86, 49}, piece(inside), piece(nil), piece([]byte{2, 139, 2}), piece(nil), last(270)); !bytes.Equal(right(t, list), want) {
				t.Errorf("the transcript of 256 bytes is %v", right(t, list))
			}
		}
	}
}

// TestEncodeGreatest has events with as much as they may have.
func TestEncodeGreatest(t *testing.T) {
	headers := slices.Repeat([]api.Header{{Name: long(512), Value: long(2048)}}, 25)
	var list []api.Event
	for i := range 70 {
		x := api.Event{Kind: 2, Session: 1 << 20, Tick: 1 << 40, Method: long(512), URL: long(2048), Headers: slices.Clone(headers), Body: long(2048), Code: 2, Cred: true, N: 1<<64 - 1}
		for j := range x.Headers {
			x.Headers[j].Value = long(2040) + string([]byte{byte(i), byte(j)})
		}
		list = append(list, x)
	}
	if got, e := Decode(right(t, list)); !sameAll(got, list) || e != api.OK {
		t.Errorf("the greatest events are not restored: %d", e)
	}
}
