package event

import (
	"slices"

	"pursuivant/api"
	"pursuivant/intern"
)

// Book is what is known of the events up to now, to which the next one is
// relative.
type Book struct {
	table *intern.Table
	tick  int
	lists map[place][]api.Header
}

// place is where the headers of a session were sent last: with a request, or
// with a response to one.
type place struct {
	session  int
	response bool
}

func placeOf(x api.Event) place {
	return place{session: x.Session, response: x.Kind == api.EvAnswer}
}

// New returns a Book of no events.
func New() *Book {
	return &Book{table: intern.New(), lists: map[place][]api.Header{}}
}

// unusable reports whether k is nil, or not a Book that New has returned.
func (k *Book) unusable() bool {
	return k == nil || k.table == nil
}

// Put returns b followed by the encoding of x, which is the next event.
func (k *Book) Put(b []byte, x api.Event) ([]byte, api.Errno) {
	switch {
	case k.unusable():
		return nil, api.ErrArg
	case !Good(x):
		return nil, api.ErrForm
	case x.Tick < k.tick:
		return nil, api.ErrOrder
	}
	// Appending to b itself could write into the caller's spare capacity.
	w := writer{out: slices.Clone(b), table: k.table, was: k.lists[placeOf(x)]}
	later := x.Tick - k.tick
	w.amount(&x.Kind)
	w.amount(&x.Session)
	w.amount(&later)
	visit(&x, &w)
	k.keep(x)
	return w.out, api.OK
}

// keep makes x the last event.
func (k *Book) keep(x api.Event) {
	k.tick = x.Tick
	switch x.Kind {
	case api.EvStart, api.EvSend, api.EvAnswer:
		// The headers of x itself are the caller's.
		k.lists[placeOf(x)] = slices.Clone(x.Headers)
	}
}

// Take decodes the event at an offset, which is the next one, and returns it and
// the offset after it.
func (k *Book) Take(b []byte, at int) (x api.Event, next int, e api.Errno) {
	if k.unusable() {
		return api.Event{}, 0, api.ErrArg
	}
	r := reader{b: b, next: at, table: k.table}
	r.amount(&x.Kind)
	if r.e == api.OK && !within(x.Kind, api.EvStart, api.EvEnd) {
		r.e = api.ErrForm
	}
	var later uint64
	r.amount(&x.Session)
	r.number(&later)
	x.Tick = k.after(later)
	r.was = k.lists[placeOf(x)]
	visit(&x, &r)
	switch {
	case r.e != api.OK:
		return api.Event{}, 0, r.e
	case !Good(x):
		return api.Event{}, 0, api.ErrForm
	}
	k.keep(x)
	return x, r.next, api.OK
}

// after returns the time that is so much later than the last one, or -1, which
// is none, if it is above the limit: the sum itself need not fit.
func (k *Book) after(later uint64) int {
	if later > uint64(api.MaxTick-k.tick) {
		return -1
	}
	return k.tick + int(later)
}
