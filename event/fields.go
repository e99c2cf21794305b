package event

import (
	"pursuivant/api"
	"pursuivant/delta"
	"pursuivant/intern"
	"pursuivant/leb"
)

// visitor is what is done with fields: one method for each way of writing one.
type visitor interface {
	amount(n *int)
	number(n *uint64)
	flag(on *bool)
	text(s *string)
	headers(list *[]api.Header)
}

// visit has v do its work on the fields that x has by its Kind, in the order in
// which they are written. All that is done field by field is done by it, so that
// no two of these can differ in fields or order.
func visit(x *api.Event, v visitor) {
	switch x.Kind {
	case api.EvStart:
		v.amount(&x.Code)
	case api.EvEnd:
		v.amount(&x.Code)
		fallthrough
	case api.EvAnswer:
		v.amount(&x.Status)
	case api.EvSend:
		v.amount(&x.Code)
		v.flag(&x.Cred)
		fallthrough
	case api.EvTick, api.EvDraw:
		v.number(&x.N)
	}
	switch x.Kind {
	case api.EvStart, api.EvSend:
		v.text(&x.Method)
		v.text(&x.URL)
		if x.Kind == api.EvStart {
			v.text(&x.Nonce)
		}
		fallthrough
	case api.EvAnswer:
		v.text(&x.Body)
		v.headers(&x.Headers)
	}
}

// eraser makes fields zero.
type eraser struct{}

func (eraser) amount(n *int)              { *n = 0 }
func (eraser) number(n *uint64)           { *n = 0 }
func (eraser) flag(on *bool)              { *on = false }
func (eraser) text(s *string)             { *s = "" }
func (eraser) headers(list *[]api.Header) { *list = nil }

// writer appends fields to bytes.
type writer struct {
	out   []byte
	table *intern.Table
	was   []api.Header // to which headers are relative
}

// amount is for numbers that are not negative, as those of valid events are.
func (w *writer) amount(n *int) {
	m := uint64(*n)
	w.number(&m)
}

func (w *writer) number(n *uint64) {
	w.out = append(w.out, leb.Put(nil, *n)...)
}

func (w *writer) flag(on *bool) {
	n := uint64(0)
	if *on {
		n = 1
	}
	w.number(&n)
}

func (w *writer) text(s *string) {
	w.out = append(w.out, w.table.Put(nil, *s)...)
}

func (w *writer) headers(list *[]api.Header) {
	w.out = append(w.out, delta.Put(nil, w.table, w.was, *list)...)
}

// reader takes fields from bytes, up to the first error, behind which it does
// nothing more.
type reader struct {
	b     []byte
	next  int
	table *intern.Table
	was   []api.Header // to which headers are relative
	e     api.Errno
}

// amount reads -1 in place of numbers that are above all limits, since an int
// need not have room for them, and no field may be negative.
func (r *reader) amount(n *int) {
	var m uint64
	r.number(&m)
	*n = -1
	if m <= api.MaxTick {
		*n = int(m)
	}
}

func (r *reader) number(n *uint64) {
	if r.e == api.OK {
		*n, r.next, r.e = leb.Take(r.b, r.next)
	}
}

func (r *reader) flag(on *bool) {
	var n uint64
	r.number(&n)
	if n > 1 {
		r.e = api.ErrForm
	}
	*on = n == 1
}

func (r *reader) text(s *string) {
	if r.e == api.OK {
		*s, r.next, r.e = r.table.Take(r.b, r.next)
	}
}

func (r *reader) headers(list *[]api.Header) {
	if r.e == api.OK {
		*list, r.next, r.e = delta.Take(r.b, r.next, r.table, r.was)
	}
}
