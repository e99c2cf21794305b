package event

import (
	"bytes"
	"math/rand"
	"slices"
	"testing"

	"pursuivant/api"
)

// stories has sequences of events whose times do not decrease.
func stories() [][]api.Event {
	var told, all []api.Event
	for _, s := range story() {
		told = append(told, s.x)
	}
	for i, x := range goods() {
		if x.Tick <= 8 && i%3 == 0 {
			x.Tick = 8
			all = append(all, x)
		}
	}
	late := slices.Clone(greatestAtOnce())
	return [][]api.Event{nil, least(), full(), told, all, slices.Concat(least(), full(), all, late, late), slices.Repeat(full(), 5)}
}

// putAll writes events, one behind the other.
func putAll(t *testing.T, k *Book, list []api.Event) []byte {
	t.Helper()
	var b []byte
	for _, x := range list {
		var e api.Errno
		if b, e = k.Put(b, x); e != api.OK {
			t.Fatalf("Put of %s returns the error %d", show(x), e)
		}
	}
	return b
}

// takeAll takes events up to the end of b.
func takeAll(t *testing.T, k *Book, b []byte) []api.Event {
	t.Helper()
	var out []api.Event
	for at := 0; at < len(b); {
		x, next, e := k.Take(b, at)
		if e != api.OK || next <= at {
			t.Fatalf("Take(%s, %d) = %s, %d, %d", show(b), at, show(x), next, e)
		}
		out, at = append(out, x), next
	}
	return out
}

func sameAll(a, b []api.Event) bool {
	return slices.EqualFunc(a, b, same)
}

// TestRestores takes what was put, and then writes more with both Books.
func TestRestores(t *testing.T) {
	for _, list := range stories() {
		k, l := New(), New()
		b := putAll(t, k, list)
		if got := takeAll(t, l, b); !sameAll(got, list) {
			t.Fatalf("%s is restored as %s", show(list), show(got))
		}
		for _, next := range stories() {
			for i := range next {
				next[i].Tick = 1 << 40
			}
			if x, y := putAll(t, k, next), putAll(t, l, next); !bytes.Equal(x, y) {
				t.Fatalf("behind the same events, %s is written as %s and as %s", show(next), show(x), show(y))
			}
		}
	}
}

// TestRestoresByTurns has each of two Books put what the other one takes.
func TestRestoresByTurns(t *testing.T) {
	for _, list := range stories() {
		k, l := open(t), open(t)
		for _, x := range list {
			b, e := k.put([]byte{7}, x)
			if e != api.OK {
				t.Fatalf("Put of %s returns the error %d", show(x), e)
			}
			if got, next, e := l.take(append(b, 7), 1); !same(got, x) || next != len(b) || e != api.OK {
				t.Fatalf("%s is restored as %s, %d, %d", show(x), show(got), next, e)
			}
			k, l = l, k
		}
		k.probe()
		l.probe()
	}
}

// TestWritesAgain writes what was taken as the same bytes.
func TestWritesAgain(t *testing.T) {
	for _, list := range stories() {
		b := putAll(t, New(), list)
		if again := putAll(t, New(), takeAll(t, New(), b)); !bytes.Equal(again, b) {
			t.Fatalf("%s is written again as %s", show(b), show(again))
		}
	}
}

func pick[T any](r *rand.Rand, list ...T) T {
	return list[r.Intn(len(list))]
}

// randomHeaders returns a list that is often like a previous one.
func randomHeaders(r *rand.Rand, was []api.Header) []api.Header {
	out := slices.Clone(was)
	for range r.Intn(4) {
		h := api.Header{Name: randomText(r, 512), Value: randomText(r, 2048)}
		switch i := r.Intn(len(out) + 1); r.Intn(3) {
		case 0:
			out = slices.Delete(out, i, min(i+1+r.Intn(3), len(out)))
		case 1:
			out = slices.Replace(out, i, min(i+1, len(out)), h)
		default:
			out = slices.Insert(out, i, h)
		}
	}
	return out[:min(len(out), 25)]
}

// randomText returns a text that is often one of a few, and rarely too long.
func randomText(r *rand.Rand, most int) string {
	switch r.Intn(40) {
	case 0:
		return long(r.Intn(most + 1))
	case 1:
		return every()[r.Intn(256):][:1]
	}
	return pick(r, "", "a", "b", "A", "ab", "\x00", "GET")
}

// randomEvent returns an event that is rarely invalid, or too early.
func randomEvent(r *rand.Rand, p *plain) api.Event {
	x := api.Event{Kind: r.Intn(7) + 1, Session: pick(r, 0, 1, 2, 7, 1<<20), Tick: p.tick() + r.Intn(3)*r.Intn(200)}
	for _, name := range fieldsOf(x.Kind) {
		v := field(&x, name)
		switch name {
		case "Headers":
			x.Headers = randomHeaders(r, p.was(x))
		case "Method", "Nonce":
			v.SetString(randomText(r, 512))
		case "URL", "Body":
			v.SetString(randomText(r, 2048))
		case "N":
			v.SetUint(r.Uint64() >> (24 + r.Intn(40)))
		case "Cred":
			v.SetBool(r.Intn(2) == 0)
		case "Code":
			v.SetInt(int64([]int{0, pick(r, codes()...), r.Intn(2) + 1, 0, 0, 0, 0, r.Intn(16) + 1}[x.Kind]))
		case "Status":
			v.SetInt(int64(100 + r.Intn(500)))
		}
	}
	switch r.Intn(60) {
	case 0:
		x.Tick -= r.Intn(1000)
	case 1:
		x.Tick = pick(r, 1<<40, 1<<40+1, -1, 1<<32)
	case 2:
		x.Session = pick(r, -1, 1<<20+1)
	case 3:
		x.Code = pick(r, 0, 1, 2, 16, 17, 85, 64)
	case 4:
		x.Kind = r.Intn(9)
	}
	if x.Kind == 5 {
		x.Session = r.Intn(60) / 59
	}
	return x
}

// randomBytes returns what may be the encoding of an event behind those of p.
func randomBytes(r *rand.Rand, p *plain) []byte {
	x := randomEvent(r, p)
	if x.Kind < 1 || x.Kind > 7 {
		return numbers(uint64(x.Kind), 0, 0)
	}
	b := p.clone().write(x)
	list := pieces(p, x)
	switch i := r.Intn(len(list)); r.Intn(8) {
	case 0:
		b[r.Intn(len(b))] = byte(r.Intn(256))
	case 1:
		b = b[:r.Intn(len(b))]
	case 2:
		list[i].b = number(r.Uint64() >> r.Intn(64))
		b = join(list)
	case 3:
		list[i].b = numbers(uint64(r.Intn(4)))
		b = join(list)
	}
	return b
}

// TestRandom compares sequences of calls with those of the model, twice.
func TestRandom(t *testing.T) {
	seen := map[api.Errno]int{}
	kinds := map[int]int{}
	for seed := range int64(400) {
		var results [2][]byte
		for turn := range results {
			r := rand.New(rand.NewSource(seed))
			k := open(t)
			for range 40 {
				if r.Intn(2) == 0 {
					b, e := k.put([]byte{1, 2}[:r.Intn(3)], randomEvent(r, k.p))
					results[turn] = append(results[turn], b...)
					seen[e]++
					continue
				}
				before := slices.Clone(k.p.events)
				ahead := []byte(long(40))[:r.Intn(4)]
				b := slices.Concat(ahead, randomBytes(r, k.p), []byte("\x00\x01\x80")[:r.Intn(4)])
				at := len(ahead)
				if r.Intn(30) == 0 {
					at = pick(r, -1, len(b), len(b)+1, r.Intn(len(b)+1))
				}
				x, _, e := k.take(b, at)
				seen[e]++
				kinds[x.Kind]++
				if e != api.OK {
					// Nothing is known about the Book any more.
					k = pick(r, open, opened)(t, before...)
				}
			}
			k.probe()
		}
		if !bytes.Equal(results[0], results[1]) {
			t.Fatalf("seed %d: the same calls returned other results", seed)
		}
	}
	for _, e := range []api.Errno{api.OK, api.ErrArg, api.ErrForm, api.ErrNone, api.ErrShort, api.ErrOver, api.ErrOrder} {
		if seen[e] < 50 {
			t.Errorf("the errors are %v", seen)
		}
	}
	for kind := 1; kind <= 7; kind++ {
		if kinds[kind] < 300 {
			t.Errorf("the kinds are %v", kinds)
		}
	}
}

func FuzzEvent(f *testing.F) {
	var told []byte
	for _, s := range story() {
		told = append(told, s.want...)
	}
	f.Add(told, 0, int64(1))
	for _, s := range firsts() {
		f.Add([]byte(s.want), 0, int64(2))
	}
	f.Add(append([]byte{9}, told...), 1, int64(3))
	f.Add([]byte("\x02\x07\x05\x02\x02"), -1, int64(4))
	f.Fuzz(func(t *testing.T, b []byte, at int, seed int64) {
		k, again := open(t), New()
		var out []byte
		next := at
		for {
			x, n, e := k.take(b, next)
			checkGood(t, x, e == api.OK)
			checkPlainInput(t, x)
			if e != api.OK {
				break
			}
			if out, e = again.Put(out, x); e != api.OK || !bytes.Equal(out, b[at:n]) {
				t.Fatalf("%s is written again as %s, %d", show(b[at:n]), show(out), e)
			}
			next = n
		}
		r := rand.New(rand.NewSource(seed))
		k = open(t, k.p.events...)
		for range 5 {
			x := randomEvent(r, k.p)
			checkGood(t, x, plainGood(x))
			checkPlainInput(t, x)
			k.put(b, x)
		}
		k.probe()
	})
}
