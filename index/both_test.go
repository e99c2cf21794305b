package index

import (
	"fmt"
	"math/rand"
	"slices"
	"testing"

	"pursuivant/api"
	"pursuivant/codec"
)

// TestRandom has random transcripts: At returns the events of Decode, and First
// what a search from the beginning does.
func TestRandom(t *testing.T) {
	r := rand.New(rand.NewSource(33))
	for range 40 {
		list := randomList(r, randomMany(r))
		b, e := codec.Encode(list)
		if e != api.OK {
			t.Fatalf("Encode(%s) returns the error %d", show(list), e)
		}
		o := must(t, b)
		decoded, e := codec.Decode(b)
		if e != api.OK || len(decoded) != o.x.Count() || !o.right {
			t.Fatalf("%s is decoded as %d events, %d, and Count is %d", show(b), len(decoded), e, o.x.Count())
		}
		for _, i := range r.Perm(len(list)) {
			if y, e := o.x.At(i); !same(y, decoded[i]) || !same(y, list[i]) || e != api.OK {
				t.Fatalf("the event %d of %s is %s, %d, want %s", i, show(b), show(y), e, show(list[i]))
			}
		}
		o.wholly()
		o.around()
	}
}

// randomDraft returns the draft of a transcript in which something is changed.
func randomDraft(t testing.TB, r *rand.Rand) *draft {
	t.Helper()
	many := pick(r, 0, 1, 2, 3, 31, 32, 33, 64, 65, 100)
	d := drafted(many)
	for part := range slices.Chunk(randomList(r, many), 32) {
		if r.Intn(8) == 0 {
			part = part[:r.Intn(len(part)+1)]
		}
		if r.Intn(8) == 0 && len(part) > 0 {
			part[0].Tick = 0
		}
		b := content(t, part...)
		for range r.Intn(pick(r, 1, 1, 3)) {
			switch i := r.Intn(len(b) + 1); {
			case r.Intn(3) == 0:
				b = slices.Insert(b, i, byte(r.Intn(256)))
			case i < len(b) && r.Intn(2) == 0:
				b[i] = pick(r, 0, 1, 2, 4, 128, byte(r.Intn(256)))
			case i < len(b):
				b = slices.Delete(b, i, i+1)
			}
		}
		b = inPieces(b)
		if r.Intn(8) == 0 {
			b[r.Intn(len(b))] ^= byte(r.Intn(256))
		}
		d.group(b)
	}
	if len(d.lengths) > 1 && r.Intn(3) == 0 {
		pick(r, faults()...).change(d)
	}
	if r.Intn(6) == 0 {
		// Another number of events, often with as many groups.
		d.many = number(uint64(max(0, many+r.Intn(5)-2)))
	}
	return d
}

// TestRandomDrafts has transcripts in which something may be wrong.
func TestRandomDrafts(t *testing.T) {
	r := rand.New(rand.NewSource(34))
	opens, reads := map[api.Errno]int{}, map[api.Errno]int{}
	for range 800 {
		o, e := open(t, randomDraft(t, r).write())
		opens[e]++
		if e != api.OK {
			continue
		}
		for i := -1; i <= o.many; i += 1 + r.Intn(8) {
			_, e := o.at(i)
			reads[e]++
		}
		for range 2 {
			o.first(r.Intn(600) - 5)
		}
	}
	for _, e := range []api.Errno{api.OK, api.ErrShort, api.ErrMore, api.ErrRange, api.ErrSum} {
		if opens[e] < 5 {
			t.Errorf("the errors of Open are %v, of which %d is rare", opens, e)
		}
	}
	for _, e := range []api.Errno{api.OK, api.ErrForm, api.ErrShort, api.ErrMore, api.ErrRange, api.ErrSum, api.ErrNone} {
		if reads[e] < 20 {
			t.Errorf("the errors of At are %v, of which %d is rare", reads, e)
		}
	}
}

// TestRandomBytes has random bytes, some of which begin or end like a transcript.
func TestRandomBytes(t *testing.T) {
	r := rand.New(rand.NewSource(35))
	for range 4000 {
		b := make([]byte, r.Intn(60))
		r.Read(b)
		if r.Intn(2) == 0 && len(b) > 10 {
			copy(b, "PV1")
			copy(b[len(b)-8:], last(uint32(r.Intn(len(b)))))
		}
		if o, e := open(t, b); e == api.OK {
			t.Errorf("the random bytes %v have %d events", b, o.many)
		}
	}
}

// TestBytes has the caller's bytes, also behind their length, as they are behind
// each call.
func TestBytes(t *testing.T) {
	good, _ := codec.Encode(mixed(70))
	for _, b := range [][]byte{nil, good[1:], good[:len(good)-1], drafted(0).write(), good, drafted(64, fails(t, 31, 9), fails(t, 32, 5)).write()} {
		arg := spare(b, 77)
		before := whole(arg)
		x, _ := Open(arg)
		for i := -1; i <= x.Count(); i++ {
			y, _ := x.At(i)
			fill(y.Headers, api.Header{Name: "filled"})
			x.First(i)
			if !slices.Equal(whole(arg), before) {
				t.Fatalf("the calls with %d changed the bytes %s", i, show(b))
			}
		}
	}
}

// TestTurns calls the methods of several Indexes by turns: what one of them was
// asked changes nothing of what it, or another one, answers.
func TestTurns(t *testing.T) {
	var results [2]string
	for turn := range results {
		r := rand.New(rand.NewSource(36))
		var list []*opened
		for range 8 {
			list = append(list, right(t, randomList(r, randomMany(r))))
		}
		wrong := drafted(96, fails(t, 32, 5), fails(t, 31, 6), fails(t, 32, 7))
		list = append(list, must(t, wrong.write()), must(t, wrong.write()))
		for range 2000 {
			o := pick(r, list...)
			switch r.Intn(3) {
			case 0:
				results[turn] += fmt.Sprint(o.count(), " ")
			case 1:
				y, e := o.at(r.Intn(o.many+6) - 3)
				results[turn] += fmt.Sprint(y.Kind, y.Tick, e, " ")
			case 2:
				tick := r.Intn(40)
				if n := len(o.all); n > 0 {
					tick = o.all[r.Intn(n)].Tick + r.Intn(3) - 1
				}
				n, e := o.first(tick)
				results[turn] += fmt.Sprint(n, e, " ")
			}
		}
	}
	if results[0] != results[1] {
		t.Error("the same calls returned other results")
	}
}

func FuzzIndex(f *testing.F) {
	for _, n := range []int{0, 1, 2, 33} {
		b, _ := codec.Encode(draws(n))
		f.Add(b, []byte(nil), []byte(nil), n, n/5)
		f.Add([]byte(nil), content(f, mixed(min(n, 32))...), content(f, draws(max(n-32, 0))...), n, 5)
	}
	f.Fuzz(func(t *testing.T, b, first, second []byte, many, tick int) {
		raw := drafted(many)
		raw.group(first)
		raw.group(second)
		own := drafted(0)
		own.many, own.groups = first, second
		for _, b := range [][]byte{b, drafted(many).write(), drafted(many, first).write(), drafted(many, first, second).write(), raw.write(), own.write()} {
			o, e := open(t, b)
			if e != api.OK {
				continue
			}
			o.count()
			for _, i := range []int{-1, 0, 31, 32, many - 1, many, tick, o.many - 1, o.many} {
				o.at(i)
			}
			o.first(tick)
			o.around()
		}
	})
}
