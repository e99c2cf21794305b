package codec

import (
	"bytes"

	"pursuivant/api"
	"pursuivant/cyc"
	"pursuivant/leb"
)

const (
	byteBits    = 8
	offsetBytes = 4
	endBytes    = 2 * offsetBytes // the checksum has as many
)

// end returns the last bytes of a transcript whose footer begins at an offset.
func end(offset uint32) []byte {
	out := cyc.Put(nil, offset)
	return cyc.Put(out, cyc.Sum(cyc.Table(), out))
}

// Foot returns how many events a transcript has, and the offsets at which its
// groups begin, followed by the one at which the last group ends.
func Foot(b []byte) (many int, places []int, e api.Errno) {
	from, e := footer(b)
	if e != api.OK {
		return 0, nil, e
	}
	foot, e := unpack(b[:len(b)-endBytes], from)
	if e != api.OK {
		return 0, nil, e
	}
	many, lengths, e := readFooter(foot)
	if e != api.OK {
		return 0, nil, e
	}
	places, e = add(lengths, from)
	if e != api.OK {
		return 0, nil, e
	}
	return many, places, api.OK
}

// footer returns the offset at which the footer of a transcript begins.
func footer(b []byte) (int, api.Errno) {
	if len(b) < len(start)+endBytes {
		return 0, api.ErrShort
	}
	if !bytes.HasPrefix(b, []byte(start)) {
		return 0, api.ErrText
	}
	size := len(b) - endBytes
	offset := combine(b[size : size+offsetBytes])
	if !bytes.Equal(b[size:], end(offset)) {
		return 0, api.ErrSum
	}
	from := int(offset)
	if from < len(start) || from > size {
		return 0, api.ErrRange
	}
	return from, api.OK
}

// combine returns the number whose bytes these are, the least significant first.
func combine(b []byte) uint32 {
	n := uint32(0)
	for i, c := range b {
		n |= uint32(c) << (byteBits * i)
	}
	return n
}

// readFooter returns the number of events that a footer tells, and the lengths
// of their groups.
func readFooter(foot []byte) (many int, lengths []uint64, e api.Errno) {
	n, at, e := leb.Take(foot, 0)
	switch {
	case e != api.OK:
		return 0, nil, e
	case n > api.MaxEvents:
		return 0, nil, api.ErrOver
	}
	many = int(n)
	for range groups(many) {
		n, at, e = leb.Take(foot, at)
		if e != api.OK {
			return 0, nil, e
		}
		lengths = append(lengths, n)
	}
	if at < len(foot) {
		return 0, nil, api.ErrMore
	}
	return many, lengths, api.OK
}

// add returns the offsets at which groups of some lengths begin, and the one
// behind them, which must be to.
func add(lengths []uint64, to int) ([]int, api.Errno) {
	var places []int
	at := len(start)
	for _, n := range lengths {
		places = append(places, at)
		// The sum itself need not fit.
		if n > uint64(to-at) {
			return nil, api.ErrRange
		}
		at += int(n)
	}
	if at != to {
		return nil, api.ErrRange
	}
	return append(places, to), api.OK
}
