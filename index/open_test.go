package index

import (
	"bytes"
	"fmt"
	"math"
	"slices"
	"testing"

	"pursuivant/api"
	"pursuivant/codec"
)

func TestNumbers(t *testing.T) {
	if api.MaxEvents != 4096 || api.MaxPiece != 256 || api.MaxTick != 1<<40 {
		t.Error("a limit has another number")
	}
	if api.OK != 0 || api.ErrArg != 1 || api.ErrOver != 2 || api.ErrText != 3 || api.ErrForm != 4 || api.ErrNone != 5 || api.ErrSum != 6 || api.ErrShort != 7 || api.ErrMore != 8 || api.ErrOrder != 9 || api.ErrRange != 13 {
		t.Error("an error has another number")
	}
}

// TestNil has the methods of a nil Index.
func TestNil(t *testing.T) {
	var x *Index
	for range 2 {
		if n := x.Count(); n != 0 {
			t.Errorf("Count of nil is %d", n)
		}
		for _, i := range []int{math.MinInt, -1, 0, 1, 31, 32, 4096, math.MaxInt} {
			if y, e := x.At(i); !same(y, api.Event{}) || e != api.ErrArg {
				t.Errorf("At(%d) of nil is %s, %d", i, show(y), e)
			}
			if n, e := x.First(i); n != 0 || e != api.ErrArg {
				t.Errorf("First(%d) of nil is %d, %d", i, n, e)
			}
		}
	}
	// Nothing is said of an Index that Open has not returned, but its calls end.
	x = &Index{}
	x.Count()
	x.At(0)
	x.First(0)
}

// TestOpenWritten has all bytes of short transcripts.
func TestOpenWritten(t *testing.T) {
	o := must(t, []byte{
		80, 86, 49,
		1, 0, 190, 35, 194, 88,
		0, 141, 239, 2, 210,
		3, 0, 0, 0,
		242, 112, 241, 51,
	})
	if n := o.x.Count(); n != 0 {
		t.Errorf("the transcript of no events has %d", n)
	}
	o.wholly()
	o.around()
	o = must(t, slices.Concat(
		[]byte{80, 86, 49},
		[]byte{3, 4, 3, 5, 98, 127, 191, 111, 0, 141, 239, 2, 210},
		[]byte{2, 1, 13, 128, 64, 111, 155, 0, 141, 239, 2, 210},
		[]byte{16, 0, 0, 0, 131, 136, 93, 113},
	))
	if n := o.x.Count(); n != 1 {
		t.Errorf("the transcript of one event has %d", n)
	}
	if y, e := o.x.At(0); !same(y, api.Event{Kind: 4, Session: 3, Tick: 5}) || e != api.OK {
		t.Errorf("the one event is %s, %d", show(y), e)
	}
	for tick, want := range map[int]int{4: 0, 5: 0, 6: 1} {
		if n, e := o.x.First(tick); n != want || e != api.OK {
			t.Errorf("the first event from %d on is %d, %d", tick, n, e)
		}
	}
	o.wholly()
	o.around()
	o = must(t, slices.Concat(
		[]byte{80, 86, 49},
		piece(append([]byte{4, 0, 9}, bytes.Repeat([]byte{4, 0, 0}, 31)...)), piece(nil),
		piece([]byte{7, 2, 10, 15, 0}), piece(nil),
		piece([]byte{33, 106, 15}), piece(nil),
		last(124),
	))
	if n := o.x.Count(); n != 33 {
		t.Errorf("the transcript of 33 events has %d", n)
	}
	for i, want := range map[int]api.Event{0: fail(0, 9), 31: fail(0, 9), 32: {Kind: 7, Session: 2, Tick: 10, Code: 15}} {
		if y, e := o.x.At(i); !same(y, want) || e != api.OK {
			t.Errorf("the event %d of 33 is %s, %d", i, show(y), e)
		}
	}
	o.wholly()
	o.around()
}

// TestOpen has transcripts of some numbers of events.
func TestOpen(t *testing.T) {
	for _, n := range []int{0, 1, 2, 31, 32, 33, 63, 64, 65, 96, 97, 4064, 4065, 4095, 4096} {
		for _, list := range [][]api.Event{draws(n), mixed(n)} {
			b, _ := codec.Encode(list)
			x, e := Open(b)
			if x == nil || e != api.OK || x.Count() != n {
				t.Errorf("the transcript of %d events is %v, %d", n, x, e)
			}
			right(t, list)
		}
	}
}

// openError checks the error of Open.
func openError(t *testing.T, name string, b []byte, want api.Errno) {
	t.Helper()
	if x, e := Open(b); x != nil || e != want {
		t.Errorf("%s: %v, %d, want %d", name, x, e, want)
	}
	open(t, b)
}

// TestOpenShort has all that is short.
func TestOpenShort(t *testing.T) {
	b, _ := codec.Encode(draws(33))
	openError(t, "nil", nil, api.ErrShort)
	openError(t, "no bytes", []byte{}, api.ErrShort)
	for size := range 11 {
		for _, b := range [][]byte{b, make([]byte, 11), []byte(long(11)), slices.Concat([]byte("PV1"), last(3))} {
			openError(t, fmt.Sprint(size, " bytes"), b[:size], api.ErrShort)
		}
	}
	openError(t, "eleven zeros", make([]byte, 11), api.ErrText)
	openError(t, "eleven bytes", slices.Concat([]byte("PV1"), make([]byte, 8)), api.ErrSum)
	openError(t, "eleven bytes, far offset", slices.Concat([]byte("PV1"), last(4)), api.ErrRange)
	openError(t, "eleven bytes, no footer", slices.Concat([]byte("PV1"), last(3)), api.ErrShort)
	for i := range b {
		if _, e := open(t, b[:i]); e == api.OK {
			t.Errorf("the first %d bytes are opened", i)
		}
		if _, e := open(t, b[i:]); e == api.OK && i > 0 {
			t.Errorf("the bytes from %d on are opened", i)
		}
	}
}

// fault is a change that makes a draft wrong.
type fault struct {
	name   string
	change func(d *draft)
	e      api.Errno
}

// faults has each error of Foot, in the order in which they are looked for.
func faults() []fault {
	pieces := func(name string, change func(foot []byte) []byte, e api.Errno) fault {
		return fault{name, func(d *draft) { d.pieces = change }, e}
	}
	return []fault{
		{"start", func(d *draft) { d.start = []byte("PV2") }, api.ErrText},
		{"sum", func(d *draft) { d.sum = 1 << 31 }, api.ErrSum},
		{"offset below 3", func(d *draft) { d.offset = func(int) uint32 { return 2 } }, api.ErrRange},
		{"greatest offset", func(d *draft) { d.offset = func(int) uint32 { return math.MaxUint32 } }, api.ErrRange},
		pieces("no pieces", func([]byte) []byte { return nil }, api.ErrShort),
		pieces("long number of a piece", func(b []byte) []byte { return append([]byte{128, 0}, inPieces(b)...) }, api.ErrForm),
		pieces("great piece", func([]byte) []byte { return append(number(257), make([]byte, 300)...) }, api.ErrOver),
		pieces("short pieces", func(b []byte) []byte { return slices.Concat(piece(b[:1]), piece(b[1:]), piece(nil)) }, api.ErrOrder),
		pieces("cut pieces", func(b []byte) []byte { p := inPieces(b); return p[:len(p)-1] }, api.ErrShort),
		pieces("sum of a piece", func(b []byte) []byte { p := inPieces(b); p[len(p)-1] ^= 1; return p }, api.ErrSum),
		{"behind", func(d *draft) { d.behind = []byte{0} }, api.ErrMore},
		pieces("empty pieces", func([]byte) []byte { return inPieces(nil) }, api.ErrShort),
		{"number of events", func(d *draft) { d.many = []byte{168, 0} }, api.ErrForm},
		{"too many events", func(d *draft) { d.many = number(4097) }, api.ErrOver},
		{"far too many events", func(d *draft) { d.many = number(math.MaxUint64) }, api.ErrOver},
		{"first length", func(d *draft) { d.lengths[0] = []byte{128, 0} }, api.ErrForm},
		{"second length", func(d *draft) { d.lengths[1] = slices.Repeat([]byte{128}, 10) }, api.ErrForm},
		{"no second length", func(d *draft) { d.lengths = d.lengths[:1] }, api.ErrShort},
		{"number of another group", func(d *draft) { d.many = number(65) }, api.ErrShort},
		{"number of one group", func(d *draft) { d.many = number(32) }, api.ErrMore},
		{"more", func(d *draft) { d.more = []byte{7} }, api.ErrMore},
		{"sum of lengths", func(d *draft) { d.groups = append(d.groups, 0) }, api.ErrRange},
		{"greatest length", func(d *draft) { d.lengths[0] = number(math.MaxUint64) }, api.ErrRange},
	}
}

// TestOpenErrors has each error of Foot, for groups that are right and for others,
// and each with all others: codec's own error is compared in these.
func TestOpenErrors(t *testing.T) {
	two := func() *draft { return drafted(40, fails(t, 32, 5), fails(t, 8, 6)) }
	wrong := func() *draft { return drafted(40, nil, []byte(long(300))) }
	for _, d := range []func() *draft{two, wrong} {
		must(t, d().write())
		for _, f := range faults() {
			a := d()
			f.change(a)
			openError(t, f.name, a.write(), f.e)
			for _, g := range faults() {
				if f.name == "no second length" || g.name == "no second length" {
					continue
				}
				b := d()
				f.change(b)
				g.change(b)
				if _, e := open(t, b.write()); e == api.OK {
					t.Errorf("%s and %s: opened", f.name, g.name)
				}
			}
		}
	}
}

// TestOpenAnyGroups has groups with any content, of which Open reads nothing.
func TestOpenAnyGroups(t *testing.T) {
	for _, n := range []int{0, 1, 2, 31, 32, 33, 63, 64, 65, 96, 97, 4064, 4065, 4095, 4096} {
		groups := (n + 31) / 32
		for name, group := range map[string]func(i int) []byte{
			"nothing":    func(int) []byte { return nil },
			"zeros":      func(i int) []byte { return make([]byte, i%5) },
			"bytes":      func(i int) []byte { return []byte(long(i % 40)) },
			"footers":    func(int) []byte { return slices.Concat(inPieces([]byte{0}), last(3)) },
			"no events":  func(int) []byte { return inPieces(nil) },
			"one event":  func(int) []byte { return inPieces([]byte{4, 3, 5}) },
			"no kind":    func(int) []byte { return inPieces([]byte{9, 9, 9}) },
			"transcript": func(int) []byte { return drafted(1, []byte{4, 3, 5}).write() },
			"late ahead": func(i int) []byte { return inPieces(fails(t, 32, 1000-i)) },
		} {
			d := drafted(n)
			for i := range groups {
				d.group(group(i))
			}
			x, e := Open(d.write())
			if x == nil || e != api.OK || x.Count() != n {
				t.Errorf("%d events, %s: %v, %d", n, name, x, e)
			}
			must(t, d.write())
		}
	}
}
