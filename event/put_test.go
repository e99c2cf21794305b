package event

import (
	"bytes"
	"fmt"
	"slices"
	"testing"

	"pursuivant/api"
)

// The encodings of the greatest numbers.
const (
	lastSession = "\x80\x80\x40"
	lastTick    = "\x80\x80\x80\x80\x80\x20"
	lastNumber  = "\xFF\xFF\xFF\xFF\xFF\xFF\xFF\xFF\xFF\x01"
)

// step is an event, and its encoding behind those ahead of it.
type step struct {
	x    api.Event
	want string
}

// firsts has events of each kind, with their encodings as the first event.
func firsts() []step {
	const (
		body    = "\x00\x04body"
		headers = "\x00\x00\x02\x00\x01A\x00\x011\x00\x01b\x00\x012"
	)
	out := []step{
		{api.Event{Kind: 5, Tick: 5, N: 5}, "\x05\x00\x05\x05"}, // the document's example
		{api.Event{Kind: 4, Session: 1 << 20, Tick: 1 << 40}, "\x04" + lastSession + lastTick},
		{api.Event{Kind: 5, Tick: 1 << 40, N: 1 << 40}, "\x05\x00" + lastTick + lastTick},
		{api.Event{Kind: 5, Tick: 3, N: 300}, "\x05\x00\x03\xAC\x02"},
		{api.Event{Kind: 6, Session: 1 << 20, Tick: 1 << 40, N: 1<<64 - 1}, "\x06" + lastSession + lastTick + lastNumber},
		{api.Event{Kind: 6, Session: 300, Tick: 128, N: 127}, "\x06\xAC\x02\x80\x01\x7F"},
		{api.Event{Kind: 7, Session: 127, Tick: 127, Code: 16, Status: 599}, "\x07\x7F\x7F\x10\xD7\x04"},
		{api.Event{Kind: 7, Code: 4}, "\x07\x00\x00\x04\x00"},
		{api.Event{Kind: 3, Session: 128, Tick: 1, Status: 599, Body: "\x00"}, "\x03\x80\x01\x01\xD7\x04\x00\x01\x00\x00\x00\x00"},
		{api.Event{Kind: 2, Code: 1, Cred: true}, "\x02\x00\x00\x01\x01\x00\x00\x00\x01\x01\x00\x00\x00"},
		{api.Event{Kind: 2, Code: 2, N: 1}, "\x02\x00\x00\x02\x00\x01\x00\x00\x01\x01\x00\x00\x00"},
		{api.Event{Kind: 2, Code: 2, N: 1<<64 - 1, Method: "m", URL: "u", Body: "b", Headers: lines("m: u", "b: m")}, "\x02\x00\x00\x02\x00" + lastNumber + "\x00\x01m\x00\x01u\x00\x01b\x00\x00\x02\x01\x02\x03\x01"},
		{api.Event{Kind: 1, Code: allowed, Method: "m", URL: "u", Nonce: "n", Body: "b", Headers: lines("n: u", "b: x")}, "\x01\x00\x00\xBF\x05\x00\x01m\x00\x01u\x00\x01n\x00\x01b\x00\x00\x02\x03\x02\x04\x00\x01x"},
		{api.Event{Kind: 3, Status: 200, Body: "b", Headers: lines("n: u", "b: x")}, "\x03\x00\x00\xC8\x01\x00\x01b\x00\x00\x02\x00\x01n\x00\x01u\x01\x00\x01x"},
	}
	for i, want := range []string{
		"\x01\x00\x00\x55\x00\x00\x01\x01\x01\x00\x00\x00", "\x02\x00\x00\x01\x00\x00\x00\x00\x01\x01\x00\x00\x00", "\x03\x00\x00\x64\x00\x00\x00\x00\x00",
		"\x04\x00\x00", "\x05\x00\x00\x00", "\x06\x00\x00\x00", "\x07\x00\x00\x01\x00",
	} {
		out = append(out, step{least()[i], want})
	}
	for i, want := range []string{
		"\x01\x07\x08\xBF\x05\x00\x03GET\x00\x08http://u\x00\x05nonce" + body + headers, "\x02\x07\x08\x02\x01\x09\x00\x03GET\x00\x08http://u" + body + headers, "\x03\x07\x08\x94\x03" + body + headers,
		"\x04\x07\x08", "\x05\x00\x08\x09", "\x06\x07\x08\x09", "\x07\x07\x08\x02\x94\x03",
	} {
		out = append(out, step{full()[i], want})
	}
	return out
}

// story has events, each with its encoding behind those ahead of it.
func story() []step {
	return []step{
		{api.Event{Kind: 1, Session: 1, Code: 85, Method: "GET", URL: "u", Headers: lines("a: 1")}, "\x01\x01\x00\x55\x00\x03GET\x00\x01u\x00\x00\x03\x00\x00\x01\x00\x01a\x00\x011"},
		{api.Event{Kind: 2, Session: 1, Code: 2, Method: "GET", URL: "u", Headers: lines("a: 1", "b: 1")}, "\x02\x01\x00\x02\x00\x00\x01\x02\x03\x01\x00\x01\x00\x01b\x05"},
		// An answer is relative to answers alone, of which there was none.
		{api.Event{Kind: 3, Session: 1, Tick: 1, Status: 200, Headers: lines("a: 1")}, "\x03\x01\x01\xC8\x01\x03\x00\x00\x01\x04\x05"},
		// Events without headers change no list.
		{api.Event{Kind: 7, Session: 1, Tick: 1, Code: 1, Status: 200}, "\x07\x01\x00\x01\xC8\x01"},
		{api.Event{Kind: 6, Session: 1, Tick: 1, N: 7}, "\x06\x01\x00\x07"},
		{api.Event{Kind: 4, Session: 1, Tick: 1}, "\x04\x01\x00"},
		{api.Event{Kind: 5, Tick: 3, N: 2}, "\x05\x00\x02\x02"},
		// A start is relative to what was sent, and an answer to the answer ahead.
		{api.Event{Kind: 1, Session: 1, Tick: 3, Code: 85, Method: "1", URL: "a", Nonce: "b", Body: "GET", Headers: lines("b: 1")}, "\x01\x01\x00\x55\x05\x04\x06\x01\x00\x01\x00"},
		{api.Event{Kind: 3, Session: 1, Tick: 3, Status: 200, Headers: lines("a: 1", "b: 1")}, "\x03\x01\x00\xC8\x01\x03\x01\x00\x01\x06\x05"},
		// Other sessions have other lists, and the same strings.
		{api.Event{Kind: 1, Session: 2, Tick: 3, Code: 85, Method: "GET", URL: "v", Headers: lines("b: 1")}, "\x01\x02\x00\x55\x01\x00\x01v\x03\x03\x00\x00\x01\x06\x05"},
		{api.Event{Kind: 3, Session: 2, Tick: 4, Status: 200}, "\x03\x02\x01\xC8\x01\x03\x00\x00\x00"},
		{api.Event{Kind: 3, Session: 0, Tick: 4, Status: 200, Headers: lines("v: 1")}, "\x03\x00\x00\xC8\x01\x03\x00\x00\x01\x07\x05"},
		{api.Event{Kind: 2, Session: 1, Tick: 4, Code: 1, Cred: true, N: 5, Headers: lines("c: 1", "b: 1")}, "\x02\x01\x00\x01\x01\x05\x03\x03\x03\x00\x01\x01\x00\x01c\x05"},
		{api.Event{Kind: 3, Session: 1, Tick: 4, Status: 200, Headers: lines("a: 1", "x: y", "b: 1")}, "\x03\x01\x00\xC8\x01\x03\x01\x01\x01\x00\x01x\x00\x01y"},
		{api.Event{Kind: 2, Session: 2, Tick: 4, Code: 2, Headers: lines("b: 1", "c: y")}, "\x02\x02\x00\x02\x00\x00\x03\x03\x03\x01\x00\x01\x08\x0A"},
		// A list that is empty again.
		{api.Event{Kind: 1, Session: 1, Tick: 4, Code: 85}, "\x01\x01\x00\x55\x03\x03\x03\x03\x00\x00\x00"},
		{api.Event{Kind: 2, Session: 1, Tick: 4, Code: 2, Headers: lines("c: 1", "b: 1")}, "\x02\x01\x00\x02\x00\x00\x03\x03\x03\x00\x00\x02\x08\x05\x06\x05"},
		{api.Event{Kind: 3, Session: 2, Tick: 1 << 40, Status: 599, Body: "x", Headers: lines("y: x")}, "\x03\x02\xFC\xFF\xFF\xFF\xFF\x1F\xD7\x04\x09\x00\x00\x01\x0A\x09"},
		{api.Event{Kind: 5, Tick: 1 << 40}, "\x05\x00\x00\x00"},
	}
}

func TestFirsts(t *testing.T) {
	for _, s := range firsts() {
		for _, ahead := range [][]byte{nil, {}, {1}, []byte(every())} {
			k := open(t)
			b, e := k.put(ahead, s.x)
			if string(b) != string(ahead)+s.want || e != api.OK {
				t.Fatalf("Put of %s behind %s = %s, %d, want %s", show(s.x), show(ahead), show(b), e, show(s.want))
			}
			k.probe()
			l := open(t)
			if x, next, e := l.take(b, len(ahead)); !same(x, s.x) || next != len(b) || e != api.OK {
				t.Fatalf("Take(%s, %d) = %s, %d, %d, want %s", show(b), len(ahead), show(x), next, e, show(s.x))
			}
			l.probe()
		}
	}
}

func TestStory(t *testing.T) {
	k, l := open(t), open(t)
	for _, s := range story() {
		b, e := k.put([]byte{9, 9}, s.x)
		if string(b) != "\x09\x09"+s.want || e != api.OK {
			t.Fatalf("Put of %s = %s, %d, want %s", show(s.x), show(b), e, show(s.want))
		}
		x, next, e := l.take(append(b, 9), 2)
		if !same(x, s.x) || next != len(b) || e != api.OK {
			t.Fatalf("Take(%s, 2) = %s, %d, %d, want %s", show(b), show(x), next, e, show(s.x))
		}
	}
	k.probe()
	l.probe()
}

// TestPutBytes has bytes ahead, with and without room behind them.
func TestPutBytes(t *testing.T) {
	for _, ahead := range [][]byte{nil, {}, make([]byte, 0, 100), {0}, {5, 0, 5, 5}, {128}, []byte(long(3000))} {
		for _, x := range slices.Concat(least(), full()) {
			first, second := New(), New()
			want, e := second.Put(nil, x)
			got, f := first.Put(ahead, x)
			if !bytes.Equal(got, slices.Concat(ahead, want)) || e != api.OK || f != api.OK {
				t.Fatalf("Put of %s behind %s = %s, %d, %d", show(x), show(ahead), show(got), e, f)
			}
		}
	}
	// What two calls return shares no memory.
	b := make([]byte, 3, 100)
	k := New()
	first, _ := k.Put(b, api.Event{Kind: 4})
	second, _ := k.Put(b, api.Event{Kind: 6, N: 5})
	fill(first)
	if !bytes.Equal(second, []byte{0, 0, 0, 6, 0, 0, 5}) || !bytes.Equal(b[:100], make([]byte, 100)) {
		t.Errorf("a change of the first result changed others: %v, %v", second, b[:100])
	}
}

func TestPutGoods(t *testing.T) {
	for _, x := range goods() {
		k := open(t)
		if b, e := k.put([]byte{1}, x); e != api.OK || len(b) < 4 {
			t.Fatalf("Put of %s = %s, %d", show(x), show(b), e)
		}
		if b, e := k.put(nil, x); e != api.OK || len(b) < 3 {
			t.Fatalf("Put of %s again = %s, %d", show(x), show(b), e)
		}
	}
}

// TestPutBads has events that are not valid, for Books that have seen nothing,
// that have seen something, and for which no time is left.
func TestPutBads(t *testing.T) {
	late := api.Event{Kind: 4, Tick: 1 << 40}
	all := bads()
	for turn, events := range [][]api.Event{nil, full(), append(full(), late)} {
		k := open(t, events...)
		for _, x := range all {
			if got, e := k.put([]byte{7}, x); len(got) != 0 || e != api.ErrForm {
				t.Fatalf("Put of %s behind %d events = %s, %d", show(x), len(events), show(got), e)
			}
		}
		k.probe()
		// Each one changes nothing.
		for i, x := range all {
			if i%40 == turn {
				k := open(t, events...)
				k.put(nil, x)
				k.probe()
			}
		}
	}
}

// TestPutOrder has events whose time is below, at and above the last one.
func TestPutOrder(t *testing.T) {
	for _, last := range []int{1, 2, 5, 127, 128, 1 << 20, 1<<31 + 1, 1<<32 + 1, 1<<40 - 1, 1 << 40} {
		for _, x := range slices.Concat(least(), full()) {
			for _, y := range slices.Concat(least(), full()) {
				x.Tick = last
				for _, tick := range []int{last - 1, last - 2, last / 2, 1, 0} {
					y.Tick = tick
					if tick < 0 || tick >= last {
						continue
					}
					k := open(t, x)
					if got, e := k.put([]byte{7}, y); len(got) != 0 || e != api.ErrOrder {
						t.Fatalf("Put of %s behind %s = %s, %d", show(y), show(x), show(got), e)
					}
					if tick == 1 {
						k.probe()
					}
				}
				for _, later := range []int{0, 1, 2, 127, 128} {
					if y.Tick = last + later; y.Tick > 1<<40 {
						continue
					}
					k := open(t, x)
					got, e := k.put(nil, y)
					want := numbers(uint64(y.Kind), uint64(y.Session), uint64(later))
					if !bytes.HasPrefix(got, want) || e != api.OK {
						t.Fatalf("Put of %s behind %s = %s, %d, want %s ..", show(y), show(x), show(got), e, show(want))
					}
					// The time of an event counts for the next one.
					if got, e := k.put(nil, api.Event{Kind: 4, Tick: y.Tick}); !bytes.Equal(got, []byte{4, 0, 0}) || e != api.OK {
						t.Fatalf("Put of an event of the same time = %v, %d", got, e)
					}
				}
				// An event that is not valid is refused as such ahead of that.
				for _, tick := range []int{last - 1, 0, -1} {
					y.Tick, y.Session = tick, -1
					k := open(t, x)
					if got, e := k.put(nil, y); len(got) != 0 || e != api.ErrForm {
						t.Fatalf("Put of %s behind %s = %s, %d", show(y), show(x), show(got), e)
					}
				}
				y.Session = 0
			}
		}
	}
}

// TestLists has events of each kind between two with headers, of the same and of
// other sessions: only a list of the same session and sort changes.
func TestLists(t *testing.T) {
	one, two := lines("a: 1", "b: 2"), lines("a: 1", "x: y", "b: 2")
	carriers := []api.Event{{Kind: 1, Code: 85}, {Kind: 2, Code: 1}, {Kind: 2, Code: 2}, {Kind: 3, Status: 200}}
	sessions := []int{0, 1, 2, 127, 1 << 10, 1<<20 - 1, 1 << 20}
	carry := func(x api.Event, session int, list []api.Header) api.Event {
		x.Session, x.Headers = session, list
		return x
	}
	for _, x := range carriers {
		for _, y := range carriers {
			for _, n := range sessions {
				for _, m := range sessions {
					k := open(t, carry(x, n, one))
					got, _ := k.put(nil, carry(y, m, two))
					// The strings 1, 2 .. are the empty one, a, 1, b, 2.
					want := "\x00\x00\x03\x02\x03\x00\x01x\x00\x01y\x04\x05"
					if n == m && (x.Kind == 3) == (y.Kind == 3) {
						want = "\x01\x01\x01\x00\x01x\x00\x01y"
					}
					if !bytes.HasSuffix(got, []byte("\x01"+want)) {
						t.Fatalf("%s behind %s is written as %s", show(y), show(x), show(got))
					}
				}
			}
		}
		for _, between := range slices.Concat(least()[3:], full()[3:]) {
			between.Tick = 0
			for _, n := range []int{0, 7} {
				k := open(t, carry(x, n, one), between)
				if got, _ := k.put(nil, carry(x, n, two)); !bytes.HasSuffix(got, []byte("\x01\x01\x01\x01\x00\x01x\x00\x01y")) {
					t.Fatalf("%s behind %s is written as %s", show(x), show(between), show(got))
				}
			}
		}
	}
}

// TestManySessions has lists of many sessions, each of which is its own.
func TestManySessions(t *testing.T) {
	k := New()
	for n := range 3000 {
		for _, x := range []api.Event{{Kind: 2, Code: 1}, {Kind: 3, Status: 100}} {
			x.Session, x.Headers = n*300, lines(fmt.Sprint("n", n, ": ", x.Kind))
			if _, e := k.Put(nil, x); e != api.OK {
				t.Fatal(e)
			}
		}
	}
	for n := range 3000 {
		for _, x := range []api.Event{{Kind: 1, Code: 85}, {Kind: 3, Status: 100}} {
			x.Session, x.Headers = n*300, lines(fmt.Sprint("n", n, ": ", max(x.Kind, 2)))
			if b, e := k.Put(nil, x); !bytes.HasSuffix(b, []byte{1, 0, 0}) || e != api.OK {
				t.Fatalf("the list of session %d is written as %v, %d", n*300, b, e)
			}
		}
	}
}

// TestKeepsHeaders changes the headers of events that were put.
func TestKeepsHeaders(t *testing.T) {
	for _, kind := range []int{1, 2, 3} {
		x := roomy(full()[kind-1])
		k := New()
		k.Put(nil, x)
		fillHeaders(x.Headers)
		b, e := k.Put(nil, full()[kind-1])
		if !bytes.HasSuffix(b, []byte{2, 0, 0}) || e != api.OK {
			t.Errorf("a change of the headers changed the Book: %s, %d", show(b), e)
		}
		if b, e = k.Put(nil, x); bytes.HasSuffix(b, []byte{2, 0, 0}) || e != api.OK {
			t.Errorf("other headers are written as %s, %d", show(b), e)
		}
	}
}

// TestGreatest has events with as much as they may have.
func TestGreatest(t *testing.T) {
	for _, x := range greatestAtOnce() {
		k := open(t)
		first, e := k.put(nil, x)
		second, f := k.put(nil, x)
		if e != api.OK || f != api.OK || len(second) > 40 {
			t.Errorf("%s is written as %s, %d, and then as %s, %d", show(x), show(first), e, show(second), f)
		}
		var list []api.Header
		for i := range 25 {
			list = append(list, api.Header{Name: fmt.Sprint(i, long(512))[:512], Value: fmt.Sprint(i, long(2048))[:2048]})
		}
		if len(x.Headers) > 0 {
			x.Headers = list
			if b, e := k.put(nil, x); e != api.OK || len(b) < 25*2560 {
				t.Errorf("%s is written as %s, %d", show(x), show(b), e)
			}
		}
	}
}

// TestNil has a Book that is nil, and one that New has not returned.
func TestNil(t *testing.T) {
	var none *Book
	for _, k := range []*Book{none, {}} {
		for _, x := range slices.Concat(least(), full(), []api.Event{{}, {Kind: 4, Tick: -1}}) {
			for _, b := range [][]byte{nil, {1, 2}} {
				if got, e := k.Put(b, x); len(got) != 0 || e != api.ErrArg {
					t.Errorf("Put of %s = %v, %d", show(x), got, e)
				}
			}
		}
		for _, b := range []string{"", "\x04\x00\x00", "\x00", "\x80\x00"} {
			for at := -1; at < 5; at++ {
				if x, next, e := k.Take([]byte(b), at); !same(x, api.Event{}) || next != 0 || e != api.ErrArg {
					t.Errorf("Take(%v, %d) = %s, %d, %d", b, at, show(x), next, e)
				}
			}
		}
	}
	if x, y := New(), New(); x == nil || x == y {
		t.Error("New returns no new Book")
	}
}
