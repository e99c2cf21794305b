package event

import (
	"bytes"
	"math"
	"slices"
	"strings"
	"testing"

	"pursuivant/api"
)

// great holds numbers above all limits, some of which have small ones as their
// lowest bits.
var great = []uint64{
	1<<40 + 1, 1<<40 + 2, 1<<41 + 1, 1<<53 + 1, 1<<56 + 2, 1<<62 - 1, 1 << 62, 1<<62 + 1, 1<<63 - 2, 1<<63 - 1, 1 << 63, 1<<63 + 1, 1<<63 + 2, 1<<63 + 7, 1<<63 + 100, 1<<63 + allowed,
	1<<64 - 1<<40, 1<<64 - 1<<32 + 1, 1<<64 - 256, 1<<64 - 8, 1<<64 - 7, 1<<64 - 6, math.MaxUint64 - 1, math.MaxUint64,
}

// wrongNumbers holds starts that chapter 1's Take refuses, whatever follows.
func wrongNumbers() map[string]api.Errno {
	out := map[string]api.Errno{strings.Repeat("\xFF", 9) + "\x02": api.ErrForm, strings.Repeat("\x80", 9) + "\x7F": api.ErrForm}
	for _, c := range []string{"\x80", "\x81", "\xFF"} {
		for _, many := range []int{1, 2, 5, 8, 9, 10, 11} {
			s := strings.Repeat(c, many)
			out[s+"\x00"], out[s+"\x00\x00\x00"] = api.ErrForm, api.ErrForm
			if many >= 10 {
				out[s], out[s+"\x01"] = api.ErrForm, api.ErrForm
			}
		}
	}
	return out
}

// shortNumbers holds ends that chapter 1's Take refuses.
func shortNumbers() []string {
	out := []string{""}
	for _, c := range []string{"\x80", "\x81", "\xFF"} {
		for many := 1; many < 10; many++ {
			out = append(out, strings.Repeat(c, many))
		}
	}
	return out
}

// wrongStrings holds starts that chapter 19's Take refuses for a Table that has
// the strings p and qq, whatever follows, and few others.
func wrongStrings() map[string]api.Errno {
	out := map[string]api.Errno{"\x00\x01p": api.ErrForm, "\x00\x02qq": api.ErrForm, "\x00\x81\x10": api.ErrOver, "\x00\x80\x20": api.ErrOver, "\x00\x80\x80\x04": api.ErrOver}
	for s, e := range wrongNumbers() {
		out[s], out["\x00"+s] = e, e
	}
	for _, n := range append(slices.Clone(great), 100, 127, 128, 300, 1<<16+1, 1<<32+1) {
		out[string(number(n))] = api.ErrNone
		if n > 2048 {
			out["\x00"+string(number(n))] = api.ErrOver
		}
	}
	return out
}

// shortStrings holds ends that chapter 19's Take refuses.
func shortStrings() []string {
	out := []string{"\x00\x01", "\x00\x02x", "\x00\x80\x10", "\x00\x80\x10" + long(2047)}
	for _, s := range shortNumbers() {
		out = append(out, s, "\x00"+s)
	}
	return out
}

// piece is a part of an encoding that is read at once.
type piece struct {
	sort string // number, string, cred, or many for a number of headers
	b    []byte
}

// pieces divides the encoding of x behind the events of p.
func pieces(p *plain, x api.Event) []piece {
	p = p.clone()
	var out []piece
	add := func(sort string, b []byte) {
		out = append(out, piece{sort, b})
	}
	add("number", number(uint64(x.Kind)))
	add("number", number(uint64(x.Session)))
	add("number", number(uint64(x.Tick-p.tick())))
	for _, name := range fieldsOf(x.Kind) {
		switch v := field(&x, name).Interface().(type) {
		case int:
			add("number", number(uint64(v)))
		case uint64:
			add("number", number(v))
		case bool:
			add("cred", number(map[bool]uint64{true: 1}[v]))
		case string:
			add("string", p.putString(v))
		case []api.Header:
			first, last := plainDifference(p.was(x), v)
			fresh := v[first : len(v)-last]
			for _, n := range []int{first, last, len(fresh)} {
				add("many", number(uint64(n)))
			}
			for _, h := range fresh {
				add("string", p.putString(h.Name))
				add("string", p.putString(h.Value))
			}
		}
	}
	return out
}

// relative reports whether headers are taken over from another list.
func relative(list []piece) bool {
	i := slices.IndexFunc(list, func(p piece) bool { return p.sort == "many" })
	return i >= 0 && (list[i].b[0] > 0 || list[i+1].b[0] > 0)
}

func join(list []piece) []byte {
	var out []byte
	for _, p := range list {
		out = append(out, p.b...)
	}
	return out
}

// ahead has events behind which the strings p and qq are known, and lists.
func ahead() []api.Event {
	return []api.Event{
		{Kind: 2, Session: 7, Tick: 3, Code: 2, Method: "p", URL: "qq", Body: "p", Headers: lines("p: qq", "qq: p", "p: p")},
		{Kind: 3, Session: 7, Tick: 5, Status: 200, Body: "p", Headers: lines("qq: qq", "p: p")},
	}
}

// subjects has events that are taken behind those of ahead.
func subjects() []api.Event {
	var out []api.Event
	for _, x := range slices.Concat(least(), full()) {
		x.Tick += 5
		out = append(out, x)
	}
	for _, x := range full()[:3] {
		x.Tick, x.Headers = 9, lines("p: qq", "new: p", "p: p")
		out = append(out, x)
	}
	return append(out, with(full()[1], func(x *api.Event) { x.Headers = many(25) }))
}

// checkTakeError checks that Take of b behind the events of ahead returns an
// error, also with other bytes ahead of b.
func checkTakeError(t *testing.T, b []byte, want api.Errno) {
	t.Helper()
	for i, before := range []string{"", "\x04\x00\x00", "\x80"} {
		k := open(t, ahead()...)
		if i == 1 {
			k = opened(t, ahead()...)
		}
		if x, next, e := k.take(slices.Concat([]byte(before), b), len(before)); !same(x, api.Event{}) || next != 0 || e != want {
			t.Fatalf("Take(%s) = %s, %d, %d, want error %d", show(b), show(x), next, e, want)
		}
	}
}

func TestTakeOffsetOutside(t *testing.T) {
	for _, b := range [][]byte{nil, {}, {4, 0, 0}, {0}, {128}, []byte(long(300))} {
		for _, at := range []int{math.MinInt, math.MinInt + 1, -1 << 32, -1<<31 - 1, -300, -3, -2, -1, len(b) + 1, len(b) + 2, len(b) + 3, len(b) + 300, 1 << 31, 1 << 32, math.MaxInt - 1, math.MaxInt} {
			if x, next, e := open(t, ahead()...).take(b, at); !same(x, api.Event{}) || next != 0 || e != api.ErrArg {
				t.Fatalf("Take(%s, %d) = %s, %d, %d", show(b), at, show(x), next, e)
			}
		}
		if x, next, e := open(t).take(b, len(b)); !same(x, api.Event{}) || next != 0 || e != api.ErrShort {
			t.Fatalf("Take(%s, %d) = %s, %d, %d", show(b), len(b), show(x), next, e)
		}
	}
}

// TestTakeOffsets has events at the beginning, in the middle and at the end.
func TestTakeOffsets(t *testing.T) {
	for _, x := range subjects() {
		for _, at := range []int{0, 1, 2, 3, 10, 127, 128, 300} {
			for _, more := range []string{"", "\x00", "\x7F", "\x80", "\x04\x00\x00", strings.Repeat("\xFF", 11)} {
				k := opened(t, ahead()...)
				want := join(pieces(k.p, x))
				b := slices.Concat([]byte(long(at)), want, []byte(more))
				y, next, e := k.take(b, at)
				if !same(x, y) || next != at+len(want) || e != api.OK {
					t.Fatalf("Take(%s, %d) = %s, %d, %d", show(b), at, show(y), next, e)
				}
				if at == 300 {
					k.probe()
				}
			}
		}
	}
}

// TestTakeCut has the start of an event alone.
func TestTakeCut(t *testing.T) {
	for _, x := range subjects() {
		b := join(pieces(open(t, ahead()...).p, x))
		for size := range b {
			checkTakeError(t, b[:size], api.ErrShort)
		}
	}
}

// TestTakeWrongPieces has each part of each event wrong, in each way, with all
// that follows: the first error counts.
func TestTakeWrongPieces(t *testing.T) {
	for _, x := range subjects() {
		list := pieces(open(t, ahead()...).p, x)
		for i, p := range list[:min(len(list), 20)] {
			wrong, short := wrongNumbers(), shortNumbers()
			if p.sort == "string" {
				wrong, short = wrongStrings(), shortStrings()
			}
			before := join(list[:i])
			for s, e := range wrong {
				checkTakeError(t, slices.Concat(before, []byte(s)), e)
				for _, more := range []string{string(join(list[i+1:])), long(2100)} {
					b := slices.Concat(before, []byte(s), []byte(more))
					if _, _, got := open(t, ahead()...).take(b, 0); got != e {
						t.Fatalf("Take(%s) returns the error %d, want %d", show(b), got, e)
					}
				}
			}
			for _, s := range short {
				checkTakeError(t, slices.Concat(before, []byte(s)), api.ErrShort)
			}
		}
	}
}

// TestTakeWrongAhead has a number that only makes an event invalid ahead of
// another error, which is told instead.
func TestTakeWrongAhead(t *testing.T) {
	for _, x := range subjects() {
		list := pieces(open(t, ahead()...).p, x)
		for i := 1; i < len(list); i++ {
			if list[i].sort != "number" || i == 1 && relative(list) {
				continue
			}
			changed := slices.Clone(list)
			for _, n := range great {
				changed[i].b = number(n)
				if x.Kind == 6 && i == 3 || x.Kind == 2 && i == 5 {
					continue // N may be so great
				}
				b := join(changed)
				checkTakeError(t, b, api.ErrForm)
				checkTakeError(t, append(b, 128), api.ErrForm)
				checkTakeError(t, b[:len(b)-1], api.ErrShort)
				last := join(changed[:len(changed)-1])
				if i == len(list)-1 {
					continue
				}
				switch list[len(list)-1].sort {
				case "string":
					checkTakeError(t, append(slices.Clone(last), "\x7F"...), api.ErrNone)
					checkTakeError(t, append(slices.Clone(last), "\x00\x81\x10"...), api.ErrOver)
				case "many":
					checkTakeError(t, append(slices.Clone(last), 26), api.ErrOver)
				}
			}
		}
	}
}

// TestTakeKind has numbers that are not a Kind, ahead of anything.
func TestTakeKind(t *testing.T) {
	kinds := []uint64{0, 8, 9, 10, 15, 16, 17, 64, 127, 128, 129, 132, 256 + 4, 512 + 4, 1<<16 + 4, 1<<31 + 4, 1<<32 + 4, 1<<32 + 1, 1<<40 + 4, 1<<62 + 4, 1<<63 + 4, math.MaxUint64 - 3}
	for _, kind := range append(kinds, great...) {
		for _, more := range []string{"", "\x00", "\x00\x00", "\x00\x00\x00", "\x80", "\x80\x00", "\x07\x05\x55\x01\x01\x01\x01\x00\x00\x00", strings.Repeat("\xFF", 11), string(numbers(great...))} {
			checkTakeError(t, slices.Concat(number(kind), []byte(more)), api.ErrForm)
		}
	}
	checkTakeError(t, nil, api.ErrShort)
	checkTakeError(t, []byte{0x80}, api.ErrShort)
	checkTakeError(t, []byte{0x84, 0x00, 0, 0}, api.ErrForm)
}

// TestTakeCred has numbers that are no Cred, ahead of anything.
func TestTakeCred(t *testing.T) {
	creds := []uint64{2, 3, 4, 126, 127, 128, 129, 256, 257, 1 << 16, 1<<16 + 1, 1 << 32, 1<<32 + 1, 1 << 63, 1<<63 + 1}
	for _, start := range []string{"\x02\x00\x00\x01", "\x02\x07\x05\x02", "\x02\x07\x05\x03", "\x02\x07" + lastNumber + "\x00", "\x02" + lastNumber + "\x00\x01", "\x02\x00\x00" + lastNumber} {
		for _, cred := range append(creds, great...) {
			for _, more := range []string{"", "\x00", "\x80", "\x80\x00", "\x00\x01\x01\x01\x00\x00\x00", "\x00\x7F", "\x00\x00\x81\x10", lastNumber + "\x7F"} {
				checkTakeError(t, slices.Concat([]byte(start), number(cred), []byte(more)), api.ErrForm)
			}
		}
	}
	for cred := range uint64(2) {
		for n := range uint64(3) {
			x, _, e := open(t, ahead()...).take(slices.Concat([]byte("\x02\x00\x00\x01"), numbers(cred, n), []byte("\x01\x01\x01\x00\x00\x00")), 0)
			if x.Cred != (cred == 1) || x.N != n || e != api.OK {
				t.Errorf("Cred %d and N %d are taken as %s, %d", cred, n, show(x), e)
			}
		}
	}
}

// TestTakeTicks has differences whose sum with the last time is at and above the
// limit, or does not fit.
func TestTakeTicks(t *testing.T) {
	for _, last := range []int{0, 1, 2, 5, 128, 1 << 20, 1 << 32, 1<<40 - 1, 1 << 40} {
		room := uint64(1<<40 - last)
		for _, more := range []uint64{0, 1, 2, room / 2, room - 1, room, room + 1, room + 2, 1<<40 + 1, 1 << 41, 1 << 62, 1<<63 - 1, 1 << 63, 1<<63 - uint64(last), 1<<63 + 1, -uint64(last) - 1, -uint64(last), -uint64(last) + 1, -uint64(last) + 5, 1<<64 - 1, 1<<64 - 2} {
			for _, kind := range []uint64{4, 5} {
				k := open(t, api.Event{Kind: 4, Tick: last})
				b := numbers(kind, 0, more, 0)[:2+len(number(more))+int(kind)-4]
				x, next, e := k.take(b, 0)
				if more > room {
					if !same(x, api.Event{}) || next != 0 || e != api.ErrForm {
						t.Fatalf("behind %d, Take(%v) = %s, %d, %d", last, b, show(x), next, e)
					}
					continue
				}
				if x.Tick != last+int(more) || next != len(b) || e != api.OK {
					t.Fatalf("behind %d, Take(%v) = %s, %d, %d", last, b, show(x), next, e)
				}
				k.probe()
			}
		}
	}
}

// TestTakeSessions has a session that no event may have: its lists are empty,
// also if its lowest bits are those of another one.
func TestTakeSessions(t *testing.T) {
	for _, n := range append([]uint64{1<<20 + 1, 1<<20 + 2, 1<<20 + 7, 1<<21 + 7, 1 << 31, 1<<32 + 7, 1<<40 + 7, 1<<63 + 7, 1<<64 - 7}, great...) {
		for _, kind := range []string{"\x02*\x00\x01\x00\x00\x01\x01\x01", "\x01*\x00\x55\x01\x01\x01\x01", "\x03*\x00\xC8\x01\x01"} {
			b := strings.Replace(kind, "*", string(number(n)), 1)
			checkTakeError(t, []byte(b+"\x01\x00\x00"), api.ErrNone)
			checkTakeError(t, []byte(b+"\x00\x01\x00"), api.ErrNone)
			checkTakeError(t, []byte(b+"\x00\x00\x00"), api.ErrForm)
		}
		checkTakeError(t, slices.Concat([]byte{4}, number(n), []byte{0}), api.ErrForm)
		checkTakeError(t, slices.Concat([]byte{4}, number(n)), api.ErrShort)
	}
	for _, n := range []uint64{1, 2, 7, 1 << 20, math.MaxUint64} {
		checkTakeError(t, slices.Concat([]byte{5}, number(n), []byte{0, 0}), api.ErrForm)
		checkTakeError(t, slices.Concat([]byte{5}, number(n), []byte{0, 128}), api.ErrShort)
	}
	// A time that may not be leaves the lists as they are.
	checkTakeError(t, []byte("\x03\x07"+lastTick+"\xC8\x01\x01\x02\x00\x00"), api.ErrForm)
	checkTakeError(t, []byte("\x03\x07"+lastNumber+"\xC8\x01\x01\x03\x00\x00"), api.ErrNone)
	checkTakeError(t, []byte("\x02\x07"+lastTick+"\x01\x00\x00\x01\x01\x01\x03\x00\x00"), api.ErrForm)
	checkTakeError(t, []byte("\x02\x07"+lastNumber+"\x01\x00\x00\x01\x01\x01\x03\x01\x00"), api.ErrNone)
}

// TestTakeLists has headers that chapter 20's Take refuses.
func TestTakeLists(t *testing.T) {
	for _, c := range []struct {
		b string
		e api.Errno
	}{
		{"\x02\x01\x00", api.ErrForm}, {"\x03\x00\x00", api.OK}, {"\x00\x00\x00", api.OK}, {"\x04\x00\x00", api.ErrNone}, {"\x02\x02\x00", api.ErrNone}, {"\x00\x04\x00", api.ErrNone}, {lastNumber + "\x00\x00", api.ErrNone}, {"\x01" + lastNumber + "\x00", api.ErrNone}, {lastNumber + "\x01\x00", api.ErrNone},
		{"\x00\x00\x1A", api.ErrOver}, {"\x01\x01\x18", api.ErrOver}, {"\x01\x01" + lastNumber, api.ErrOver}, {"\x00\x03\x17", api.ErrOver}, {"\x04\x00\x1A", api.ErrNone},
		{"\x00\x03\x00", api.ErrForm}, {"\x00\x00\x01\x01\x02", api.ErrForm}, {"\x01\x00\x01\x01\x01", api.ErrForm}, {"\x01\x01\x01\x02\x01", api.ErrForm}, {"\x02\x00\x01\x02\x02", api.OK}, {"\x00\x00\x01\x02\x02", api.OK},
		{"\x02\x00\x01\x02\x03", api.ErrNone}, {"\x02\x00\x01\x03\x02", api.ErrNone}, {"\x02\x00\x01\x00\x01p\x02", api.ErrForm}, {"\x02\x00\x01\x02\x00\x02qq", api.ErrForm}, {"\x02\x00\x01\x02\x00\x81\x10", api.ErrOver}, {"\x02\x00\x02\x02\x02\x00\x05", api.ErrShort},
	} {
		for _, start := range []string{"\x01\x07\x00\x55\x01\x01\x01\x01", "\x02\x07\x00\x02\x01\x00\x01\x01\x01"} {
			k := open(t, ahead()...)
			if _, _, e := k.take([]byte(start+c.b), 0); e != c.e {
				t.Fatalf("Take(%s) returns the error %d, want %d", show(start+c.b), e, c.e)
			}
			// A Code that may not be counts less.
			if c.e != api.OK {
				checkTakeError(t, []byte(start[:3]+"\x00"+start[4:]+c.b), c.e)
			}
		}
	}
	for _, c := range []struct {
		b string
		e api.Errno
	}{
		{"\x02\x00\x00", api.OK}, {"\x03\x00\x00", api.ErrNone}, {"\x01\x02\x00", api.ErrNone}, {"\x00\x02\x18", api.ErrOver}, {"\x00\x02\x00", api.ErrForm}, {"\x01\x01\x01\x01\x02", api.OK}, {"\x01\x00\x01\x01\x01", api.ErrForm}, {"\x00\x00\x01\x02\x02", api.ErrForm}, {"\x00\x00\x01\x00\x00\x03", api.OK}, {"\x00\x00\x01\x00\x00\x04", api.ErrNone},
	} {
		k := open(t, ahead()...)
		if _, _, e := k.take([]byte("\x03\x07\x00\xC8\x01\x01"+c.b), 0); e != c.e {
			t.Fatalf("Take of an answer with %s returns the error %d, want %d", show(c.b), e, c.e)
		}
	}
}

// TestTakeBads has events that are not valid, as far as they can be written.
func TestTakeBads(t *testing.T) {
	seen := 0
	for _, x := range bads() {
		if x.Kind < 1 || x.Kind > 7 {
			continue
		}
		y := x
		for _, name := range strings.Fields(allFields) {
			if !slices.Contains(fieldsOf(x.Kind), name) {
				field(&y, name).SetZero()
			}
		}
		if plainGood(y) {
			continue // it is only wrong in what is not written
		}
		want := api.ErrForm
		if len(x.Headers) > 25 || len(x.Body) > 2048 || len(x.URL) > 2048 || len(x.Method) > 2048 || len(x.Nonce) > 2048 || slices.ContainsFunc(x.Headers, func(h api.Header) bool { return len(h.Name) > 2048 || len(h.Value) > 2048 }) {
			want = api.ErrOver
		}
		b := (&plain{}).write(y)
		k := open(t)
		if got, next, e := k.take(b, 0); !same(got, api.Event{}) || next != 0 || e != want {
			t.Fatalf("Take(%s) = %s, %d, %d, want error %d", show(b), show(got), next, e, want)
		}
		seen++
	}
	if seen < 500 {
		t.Errorf("there are only %d events", seen)
	}
}

func TestTakeGoods(t *testing.T) {
	for _, x := range goods() {
		b := (&plain{}).write(x)
		for _, more := range []string{"", "\x00"} {
			k := open(t)
			if got, next, e := k.take(append(b, more...), 0); !same(got, x) || next != len(b) || e != api.OK {
				t.Fatalf("Take(%s) = %s, %d, %d, want %s", show(b), show(got), next, e, show(x))
			}
		}
	}
}

// TestTakeKeepsHeaders changes the headers that Take returned, and what lies
// behind them.
func TestTakeKeepsHeaders(t *testing.T) {
	for _, start := range []string{"\x01\x07\x05\x55\x00\x01p\x01\x01\x01", "\x02\x07\x05\x01\x00\x00\x00\x01p\x01\x01", "\x03\x07\x05\x64\x00\x01p"} {
		k := New()
		first, _, e := k.Take([]byte(start+"\x00\x00\x02\x01\x01\x01\x00\x01q"), 0)
		if want := lines("p: p", "p: q"); e != api.OK || !slices.Equal(first.Headers, want) {
			t.Fatal(show(first), e)
		}
		fillHeaders(first.Headers)
		again := strings.Replace(strings.Replace(start, "\x00\x01p", "\x01", 1), "\x07\x05", "\x07\x00", 1)
		second, _, e := k.Take([]byte(again+"\x02\x00\x00"), 0)
		if want := lines("p: p", "p: q"); e != api.OK || !slices.Equal(second.Headers, want) {
			t.Errorf("a change of what was taken changed the Book: %s, %d", show(second), e)
		}
		_ = append(second.Headers, lines("x: y")...)
		third, _, e := k.Take([]byte(again+"\x02\x00\x00"), 0)
		fillHeaders(second.Headers)
		if want := lines("p: p", "p: q"); e != api.OK || !slices.Equal(third.Headers, want) {
			t.Errorf("a change of what was taken changed the Book, or another event: %s, %d", show(third), e)
		}
	}
}

// TestTakeAll goes through all short bytes of few values, as long as only more
// of them can make an event.
func TestTakeAll(t *testing.T) {
	count := map[api.Errno]int{}
	var grow func(events []api.Event, b []byte, values string, left int)
	grow = func(events []api.Event, b []byte, values string, left int) {
		k := open(t, events...)
		_, next, e := k.take(b, 0)
		count[e]++
		if e == api.OK && next != len(b) {
			t.Fatalf("Take(%v) has read %d bytes, though fewer are an event", b, next)
		}
		if e != api.ErrShort || left == 0 {
			return
		}
		for i := range len(values) {
			grow(events, append(slices.Clone(b), values[i]), values, left-1)
		}
	}
	for kind := range byte(10) {
		grow(nil, []byte{kind}, "\x00\x01\x02\x64\x80\xFF", 4)
		grow(ahead(), []byte{kind, 7}, "\x00\x01\x02\x03\x55\x80", 4)
	}
	grow(ahead(), []byte{3, 7, 0, 100}, "\x00\x01\x02\x03", 7)
	grow(ahead(), []byte{2, 7, 0, 1, 1, 0, 1}, "\x00\x01\x02\x03", 7)
	grow(ahead(), []byte{1, 7, 0, 85, 1, 2, 1}, "\x00\x01\x02\x03", 7)
	grow(nil, []byte{7, 0, 0}, "\x00\x01\x10\x11\x57\x58\x80\xD7\xD8\x04\x05", 3)
	for _, e := range []api.Errno{api.OK, api.ErrForm, api.ErrNone, api.ErrShort} {
		if count[e] < 300 {
			t.Errorf("the errors are %v", count)
		}
	}
}

// TestTakeGiven leaves the bytes as they are, and does not keep them.
func TestTakeGiven(t *testing.T) {
	b := spare([]byte("\x02\x07\x05\x01\x00\x00\x00\x01p\x00\x01q\x00\x01r\x00\x00\x01\x00\x01s\x02"))
	before := whole(b)
	k := New()
	x, _, e := k.Take(b, 0)
	if !bytes.Equal(whole(b), before) || e != api.OK {
		t.Fatal(b, e)
	}
	fill(b)
	if !same(x, api.Event{Kind: 2, Session: 7, Tick: 5, Code: 1, Method: "p", URL: "q", Body: "r", Headers: lines("s: q")}) {
		t.Errorf("a change of the bytes changed the event to %s", show(x))
	}
	y, _, e := k.Take([]byte("\x01\x07\x00\x55\x01\x02\x03\x04\x01\x00\x00"), 0)
	if !same(y, api.Event{Kind: 1, Session: 7, Tick: 5, Code: 85, Method: "p", URL: "q", Nonce: "r", Body: "s", Headers: lines("s: q")}) || e != api.OK {
		t.Errorf("a change of the bytes changed the Book: %s, %d", show(y), e)
	}
}
