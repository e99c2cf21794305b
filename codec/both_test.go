package codec

import (
	"bytes"
	"encoding/binary"
	"fmt"
	"math/rand"
	"slices"
	"testing"

	"pursuivant/api"
	"pursuivant/event"
)

func pick[T any](r *rand.Rand, list ...T) T {
	return list[r.Intn(len(list))]
}

// randomText returns a text that is often one of a few.
func randomText(r *rand.Rand, most int) string {
	switch r.Intn(40) {
	case 0:
		return long(r.Intn(most + 1))
	case 1:
		return string([]byte{byte(r.Intn(256))})
	}
	return pick(r, "", "a", "b", "A", "ab", "\x00", "GET")
}

// randomHeaders returns headers that are often alike.
func randomHeaders(r *rand.Rand) []api.Header {
	var out []api.Header
	for range r.Intn(pick(r, 1, 3, 4, 26)) {
		out = append(out, api.Header{Name: randomText(r, 512), Value: randomText(r, 2048)})
	}
	return out
}

// randomEvent returns a valid event.
func randomEvent(r *rand.Rand, tick int) api.Event {
	n := pick(r, 0, 1, 2, 7, 1<<20)
	switch r.Intn(7) {
	case 0:
		return api.Event{Kind: 1, Session: n, Tick: tick, Method: randomText(r, 512), URL: randomText(r, 2048), Headers: randomHeaders(r), Body: randomText(r, 2048), Nonce: randomText(r, 512),
			Code: r.Intn(3) + 1 + 4*(r.Intn(3)+1) + 16*(r.Intn(3)+1) + 64*(r.Intn(10)+1)}
	case 1:
		return api.Event{Kind: 2, Session: n, Tick: tick, Method: randomText(r, 512), URL: randomText(r, 2048), Headers: randomHeaders(r), Body: randomText(r, 2048), Code: r.Intn(2) + 1, Cred: r.Intn(2) == 0, N: r.Uint64() >> r.Intn(64)}
	case 2:
		return api.Event{Kind: 3, Session: n, Tick: tick, Headers: randomHeaders(r), Body: randomText(r, 2048), Status: r.Intn(500) + 100}
	case 3:
		return api.Event{Kind: 5, Tick: tick, N: r.Uint64() >> (24 + r.Intn(40))}
	case 4:
		return api.Event{Kind: 6, Session: n, Tick: tick, N: r.Uint64() >> r.Intn(64)}
	case 5:
		return api.Event{Kind: 7, Session: n, Tick: tick, Code: r.Intn(16) + 1, Status: r.Intn(600)}
	}
	return fail(n, tick)
}

// randomList returns valid events whose times do not decrease.
func randomList(r *rand.Rand, many int) []api.Event {
	var out []api.Event
	tick := 0
	for range many {
		tick = min(tick+pick(r, 0, 0, 1, r.Intn(300), 1<<30), 1<<40)
		out = append(out, randomEvent(r, tick))
	}
	return out
}

// randomMany returns a number of events that is often near the ends of groups.
func randomMany(r *rand.Rand) int {
	return max(0, pick(r, 0, 0, 1, 2, 3, 4)*32+r.Intn(5)-2+pick(r, 0, 0, 0, r.Intn(30)))
}

// TestRestores encodes random lists, decodes them, and encodes them again.
func TestRestores(t *testing.T) {
	r := rand.New(rand.NewSource(22))
	for range 400 {
		list := randomList(r, randomMany(r))
		b := right(t, list)
		got, e := decode(t, b)
		if !sameAll(got, list) || e != api.OK {
			t.Fatalf("%s is restored as %s, %d", show(list), show(got), e)
		}
		if again := right(t, got); !bytes.Equal(again, b) {
			t.Fatalf("%s is written again as %s", show(b), show(again))
		}
		many, places, e := foot(t, b)
		if many != len(list) || e != api.OK {
			t.Fatalf("Foot(%s) = %d, %v, %d", show(b), many, places, e)
		}
		var all []api.Event
		for i := range len(places) - 1 {
			part, e := group(t, b, places[i], places[i+1], min(32, many-32*i))
			if e != api.OK {
				t.Fatalf("the group %d of %s: %d", i, show(b), e)
			}
			all = append(all, part...)
		}
		if !sameAll(all, list) {
			t.Fatalf("the groups of %s are %s", show(list), show(all))
		}
	}
}

// TestRandomErrors has random lists in which some events are incorrect.
func TestRandomErrors(t *testing.T) {
	r := rand.New(rand.NewSource(23))
	seen := map[api.Errno]int{}
	for range 600 {
		list := randomList(r, randomMany(r)+1)
		for range r.Intn(3) {
			x := &list[r.Intn(len(list))]
			switch r.Intn(5) {
			case 0:
				x.Tick -= r.Intn(1000)
			case 1:
				x.Tick = pick(r, 1<<40, 1<<40+1, -1, 0)
			case 2:
				x.Session = pick(r, -1, 1<<20+1, 0)
			case 3:
				x.Kind = r.Intn(9)
			case 4:
				x.Code = r.Intn(300)
			}
		}
		_, e := encode(t, list)
		seen[e]++
	}
	for _, e := range []api.Errno{api.OK, api.ErrForm, api.ErrOrder} {
		if seen[e] < 50 {
			t.Errorf("the errors are %v", seen)
		}
	}
}

// writesAgain checks that what Decode accepts is what Encode returns.
func writesAgain(t testing.TB, b []byte) api.Errno {
	t.Helper()
	list, e := decode(t, b)
	if e != api.OK {
		return e
	}
	for i, x := range list {
		if !event.Good(x) || i > 0 && x.Tick < list[i-1].Tick {
			t.Fatalf("%s is decoded as %s, whose event %d is incorrect", show(b), show(list), i)
		}
	}
	if again, e := encode(t, list); !bytes.Equal(again, b) || e != api.OK {
		t.Fatalf("%s is written again as %s, %d", show(b), show(again), e)
	}
	return e
}

// TestWritesAgain has random bytes, some of which begin or end like a transcript.
func TestWritesAgain(t *testing.T) {
	r := rand.New(rand.NewSource(24))
	for range 4000 {
		b := make([]byte, r.Intn(60))
		r.Read(b)
		if r.Intn(2) == 0 && len(b) > 10 {
			copy(b, "PV1")
			copy(b[len(b)-8:], last(uint32(r.Intn(len(b)))))
		}
		if writesAgain(t, b) == api.OK {
			t.Errorf("the random bytes %v are a transcript", b)
		}
	}
}

// TestWritesAgainChanged has transcripts of which one byte or a few are changed.
func TestWritesAgainChanged(t *testing.T) {
	r := rand.New(rand.NewSource(25))
	for range 60 {
		b := right(t, randomList(r, pick(r, 0, 1, 2, 33)))
		for range 60 {
			c := slices.Clone(b)
			for range r.Intn(3) + 1 {
				switch i := r.Intn(len(c)); r.Intn(4) {
				case 0, 1:
					c[i] ^= byte(r.Intn(255) + 1)
				case 2:
					c = slices.Delete(c, i, min(i+1+r.Intn(3), len(c)))
				case 3:
					c = slices.Insert(c, i, byte(r.Intn(256)))
				}
				if len(c) == 0 {
					break
				}
			}
			if e := writesAgain(t, c); e == api.OK && !bytes.Equal(c, b) {
				t.Errorf("the changed bytes %v are a transcript", c)
			}
		}
	}
}

// TestWritesAgainEveryByte has each other value of each byte of a transcript.
func TestWritesAgainEveryByte(t *testing.T) {
	for _, list := range [][]api.Event{nil, {fail(3, 5)}, {{Kind: 5, Tick: 300, N: 300}, {Kind: 3, Tick: 300, Status: 200, Headers: lines("a: b")}}} {
		good := right(t, list)
		for i := range good {
			for c := 1; c < 256; c++ {
				b := slices.Clone(good)
				b[i] ^= byte(c)
				if e := writesAgain(t, b); e == api.OK {
					t.Errorf("the byte %d of %s may be %d", i, show(list), b[i])
				}
			}
		}
	}
}

// TestWritesAgainInside has other contents with right checksums: many of them are
// transcripts, each of its own events.
func TestWritesAgainInside(t *testing.T) {
	r := rand.New(rand.NewSource(26))
	seen := map[api.Errno]int{}
	for range 6000 {
		d := randomDraft(t, r)
		seen[writesAgain(t, d.write())]++
	}
	for _, e := range []api.Errno{api.OK, api.ErrForm, api.ErrNone, api.ErrShort, api.ErrMore, api.ErrOrder, api.ErrRange, api.ErrOver} {
		if seen[e] < 20 {
			t.Errorf("the errors are %v, of which %d is rare", seen, e)
		}
	}
}

// randomDraft returns the draft of a transcript in which something is changed.
func randomDraft(t *testing.T, r *rand.Rand) *draft {
	t.Helper()
	many := pick(r, 0, 1, 2, 3, 33, 65)
	var contents [][]byte
	for part := range slices.Chunk(randomList(r, many), 32) {
		if r.Intn(12) == 0 && len(part) > 1 {
			// The first event of the group loses its time.
			part[0].Tick = 0
		}
		b := content(t, part...)
		if i := r.Intn(len(b)); r.Intn(3) == 0 {
			switch r.Intn(4) {
			case 0, 1:
				b[i] ^= byte(pick(r, 1, 1, 2, 4, 128, r.Intn(256)))
			case 2:
				b = slices.Delete(b, i, i+1)
			case 3:
				b = slices.Insert(b, i, byte(r.Intn(256)))
			}
		}
		contents = append(contents, b)
	}
	d := drafted(many, contents...)
	switch r.Intn(20) {
	case 0:
		d.many = number(uint64(many + r.Intn(5) - 2))
	case 1:
		d.many = number(r.Uint64() >> r.Intn(64))
	case 2:
		d.lengths = append(d.lengths, number(uint64(r.Intn(3))))
	case 3:
		if many > 0 {
			d.lengths[r.Intn(len(d.lengths))] = number(r.Uint64() >> r.Intn(64))
		}
	case 4:
		d.behind = make([]byte, r.Intn(3))
	case 5:
		d.groups = append(d.groups, make([]byte, r.Intn(3))...)
	}
	return d
}

// bits returns changes within 32 consecutive bits: of one and of two bits, of
// all, and random ones.
func bits(r *rand.Rand) []uint32 {
	out := []uint32{1<<32 - 1, 1<<31 | 1, 0xEDB88320, 0xDB710641, 0x04C11DB7}
	for i := range 32 {
		out = append(out, 1<<i)
		for j := range i {
			out = append(out, 1<<i|1<<j)
		}
	}
	for range 200 {
		out = append(out, r.Uint32()|1)
	}
	return out
}

// changeBits changes the 32 bits of a copy of b from one on, as far as they are
// among those up to another one; it returns nil if it changed none.
func changeBits(b []byte, from, to int, by uint32) []byte {
	b = slices.Clone(b)
	changed := false
	for i := range 32 {
		if at := from + i; by>>i&1 == 1 && at < to {
			b[at/8] ^= 1 << (at % 8)
			changed = true
		}
	}
	if !changed {
		return nil
	}
	return b
}

// TestBursts has changes within 32 consecutive bits of the content and checksum of
// each piece, and of the last eight bytes.
func TestBursts(t *testing.T) {
	r := rand.New(rand.NewSource(27))
	for _, list := range [][]api.Event{nil, {fail(3, 5)}, {{Kind: 3, Tick: 9, Status: 200, Body: long(20), Headers: lines("a: b")}}} {
		b := right(t, list)
		size := len(b) - 8
		areas := [][2]int{{size, len(b)}}
		for at := 3; at < size; {
			n := int(b[at])
			areas = append(areas, [2]int{at + 1, at + 1 + n + 4})
			at += 1 + n + 4
		}
		if want := 1 + 4; len(list) > 0 && len(areas) != want {
			t.Fatalf("the areas of %v are %v", b, areas)
		}
		for _, area := range areas {
			for from := area[0] * 8; from < area[1]*8; from++ {
				for _, by := range bits(r) {
					c := changeBits(b, from, area[1]*8, by)
					if c == nil {
						continue
					}
					if got, e := Decode(c); len(got) != 0 || e != api.ErrSum {
						t.Fatalf("%v with the change of %#x at the bit %d is %s, %d", b, by, from, show(got), e)
					}
				}
			}
		}
	}
}

// TestBurstsFar has such changes in transcripts of some groups.
func TestBurstsFar(t *testing.T) {
	r := rand.New(rand.NewSource(28))
	for range 20 {
		b := right(t, randomList(r, 70))
		for range 300 {
			from := r.Intn(8 * len(b))
			c := changeBits(b, from, 8*len(b), r.Uint32()|1)
			if got, e := Decode(c); len(got) != 0 || e == api.OK {
				t.Fatalf("%s with a change at the bit %d is %s, %d", show(b), from, show(got), e)
			}
		}
		// Within one piece, the first error is that of the checksum.
		_, places, _ := foot(t, b)
		for i := range len(places) - 1 {
			for range 50 {
				at := places[i]
				number, size := binary.Uvarint(b[at:])
				n, from := int(number), at+size
				end := from + n + 4
				c := changeBits(b, 8*(from+r.Intn(n+4)), 8*end, r.Uint32()|1)
				if _, e := decode(t, c); e != api.ErrSum {
					t.Fatalf("a change of the first piece of the group %d: %d", i, e)
				}
			}
		}
	}
}

// TestAgain makes the same calls in two orders.
func TestAgain(t *testing.T) {
	r := rand.New(rand.NewSource(29))
	var lists [][]api.Event
	for range 20 {
		lists = append(lists, randomList(r, randomMany(r)))
	}
	results := map[string]string{}
	for turn := range 4 {
		for i := range lists {
			if turn%2 == 1 {
				i = len(lists) - 1 - i
			}
			b, e := Encode(lists[i])
			list, f := Decode(b)
			many, places, g := Foot(b)
			got := fmt.Sprint(b, e, list, f, many, places, g)
			if was, ok := results[fmt.Sprint(i)]; ok && was != got {
				t.Fatalf("the calls with %s returned other results", show(lists[i]))
			}
			results[fmt.Sprint(i)] = got
		}
	}
}

func FuzzCodec(f *testing.F) {
	for _, n := range []int{0, 1, 2, 33} {
		b, _ := Encode(draws(n))
		f.Add(b, []byte(nil), []byte(nil), n)
		f.Add([]byte(nil), content(f, mixed(min(n, 32))...), content(f, draws(max(n-32, 0))...), n)
	}
	f.Fuzz(func(t *testing.T, b, first, second []byte, many int) {
		writesAgain(t, b)
		foot(t, b)
		group(t, b, 0, len(b), many)
		group(t, b, min(3, len(b)), len(b), many)
		for _, d := range []*draft{drafted(many), drafted(many, first), drafted(many, first, second)} {
			writesAgain(t, d.write())
		}
		d := drafted(0)
		d.many = first
		d.groups = second
		writesAgain(t, d.write())
		p := inPieces(first)
		group(t, p, 0, len(p), many)
	})
}
