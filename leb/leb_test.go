package leb

import (
	"bytes"
	"encoding/binary"
	"math"
	"slices"
	"testing"

	"pursuivant/api"
)

// groups is the encoding of a number, worked out by division instead of shifts.
func groups(n uint64) []byte {
	out := []byte{byte(n % 128)}
	for n /= 128; n > 0; n /= 128 {
		out[len(out)-1] += 128
		out = append(out, byte(n%128))
	}
	return out
}

// numbers holds every number of at most 16 bits and, around each power of two
// above, the ones where a group begins or is full.
func numbers() []uint64 {
	var out []uint64
	for n := range uint64(1 << 16) {
		out = append(out, n)
	}
	for bit := 16; bit < 64; bit++ {
		p := uint64(1) << bit
		out = append(out, p-1, p, p+1, p|0x55, p|p>>1, ^p)
	}
	return append(out, math.MaxUint64-1, math.MaxUint64)
}

func repeat(c byte, many int, more ...byte) []byte {
	return append(bytes.Repeat([]byte{c}, many), more...)
}

func TestPutKnown(t *testing.T) {
	cases := []struct {
		n    uint64
		want []byte
	}{
		{0, []byte{0}},
		{1, []byte{1}},
		{127, []byte{127}},
		{128, []byte{128, 1}},
		{300, []byte{172, 2}},
		{1<<14 - 1, []byte{255, 127}},
		{1 << 14, []byte{128, 128, 1}},
		{1<<21 - 1, repeat(255, 2, 127)},
		{1 << 21, repeat(128, 3, 1)},
		{1<<28 - 1, repeat(255, 3, 127)},
		{1 << 28, repeat(128, 4, 1)},
		{1<<35 - 1, repeat(255, 4, 127)},
		{1 << 35, repeat(128, 5, 1)},
		{1<<42 - 1, repeat(255, 5, 127)},
		{1 << 42, repeat(128, 6, 1)},
		{1<<49 - 1, repeat(255, 6, 127)},
		{1 << 49, repeat(128, 7, 1)},
		{1<<56 - 1, repeat(255, 7, 127)},
		{1 << 56, repeat(128, 8, 1)},
		{1<<63 - 1, repeat(255, 8, 127)},
		{1 << 63, repeat(128, 9, 1)},
		{math.MaxUint64, repeat(255, 9, 1)},
		{0x0123456789ABCDEF, []byte{239, 155, 175, 205, 248, 172, 209, 145, 1}},
	}
	for _, c := range cases {
		if got := Put(nil, c.n); !bytes.Equal(got, c.want) {
			t.Errorf("Put(nil, %d) = %v, want %v", c.n, got, c.want)
		}
		if got := Size(c.n); got != len(c.want) {
			t.Errorf("Size(%d) = %d, want %d", c.n, got, len(c.want))
		}
		n, next, e := Take(c.want, 0)
		if n != c.n || next != len(c.want) || e != api.OK {
			t.Errorf("Take(%v, 0) = %d, %d, %d", c.want, n, next, e)
		}
	}
}

func TestPutMany(t *testing.T) {
	sizes := map[int]int{}
	for _, n := range numbers() {
		want := groups(n)
		if got := Put(nil, n); !bytes.Equal(got, want) {
			t.Fatalf("Put(nil, %d) = %v, want %v", n, got, want)
		}
		if !bytes.Equal(want, binary.AppendUvarint(nil, n)) {
			t.Fatalf("the test's own encoding of %d is wrong", n)
		}
		if got := Size(n); got != len(want) {
			t.Fatalf("Size(%d) = %d, want %d", n, got, len(want))
		}
		sizes[len(want)]++
	}
	for size := 1; size <= 10; size++ {
		if sizes[size] == 0 {
			t.Errorf("no number of %d bytes was tried", size)
		}
	}
}

func TestPutFollowsBytes(t *testing.T) {
	for _, b := range [][]byte{nil, {}, {0}, {128}, {255, 255}, {172, 2, 128}, repeat(200, 300)} {
		for _, n := range []uint64{0, 127, 128, 300, 1 << 35, math.MaxUint64} {
			want := slices.Concat(b, groups(n))
			if got := Put(b, n); !bytes.Equal(got, want) {
				t.Errorf("Put(%v, %d) = %v, want %v", b, n, got, want)
			}
		}
	}
}

func TestPutLeavesSpareCapacity(t *testing.T) {
	for _, length := range []int{0, 1, 5} {
		for _, n := range []uint64{0, 300, math.MaxUint64} {
			whole := repeat(77, 40)
			Put(whole[:length], n)
			if !bytes.Equal(whole, repeat(77, 40)) {
				t.Errorf("Put of %d after %d bytes changed its argument: %v", n, length, whole)
			}
		}
	}
}

func TestPutSharesNothing(t *testing.T) {
	whole := repeat(77, 40)
	for _, length := range []int{0, 1, 5} {
		for _, n := range []uint64{0, 300, math.MaxUint64} {
			first, second := Put(whole[:length], n), Put(whole[:length], n)
			want := slices.Concat(whole[:length], groups(n))
			overwrite(first[:cap(first)])
			if !bytes.Equal(whole, repeat(77, 40)) {
				t.Errorf("length %d, number %d: the result shares memory with the argument", length, n)
			}
			if !bytes.Equal(second, want) {
				t.Errorf("length %d, number %d: two results share memory", length, n)
			}
		}
	}
}

func TestPutResultIsSteady(t *testing.T) {
	b := []byte{1, 2, 3}
	got := Put(b, 300)
	overwrite(b)
	if !bytes.Equal(got, []byte{1, 2, 3, 172, 2}) {
		t.Errorf("the result changed with the argument: %v", got)
	}
}

func overwrite(b []byte) {
	for i := range b {
		b[i] = 99
	}
}

func TestTakeAtEveryOffset(t *testing.T) {
	for _, n := range []uint64{0, 1, 127, 128, 300, 1 << 14, 1 << 21, 1 << 28, 1 << 35, 1 << 42, 1 << 49, 1 << 56, 1 << 63, math.MaxUint64} {
		for at := range 25 {
			for _, before := range []byte{0, 1, 128, 255} {
				for _, after := range [][]byte{nil, {0}, {127}, {128}, repeat(255, 20)} {
					b := slices.Concat(repeat(before, at), groups(n), after)
					want := at + len(groups(n))
					got, next, e := Take(b, at)
					if got != n || next != want || e != api.OK {
						t.Fatalf("Take(%v, %d) = %d, %d, %d, want %d, %d", b, at, got, next, e, n, want)
					}
				}
			}
		}
	}
}

func TestTakeRestoresSequence(t *testing.T) {
	list := numbers()
	var b []byte
	for _, n := range list {
		b = append(b, Put(nil, n)...)
	}
	at := 0
	for _, want := range list {
		n, next, e := Take(b, at)
		if n != want || next != at+Size(want) || e != api.OK {
			t.Fatalf("Take at %d = %d, %d, %d, want %d", at, n, next, e, want)
		}
		at = next
	}
	if at != len(b) {
		t.Errorf("the last number ends at %d of %d", at, len(b))
	}
}

func wantError(t *testing.T, b []byte, at int, want api.Errno) {
	t.Helper()
	if n, next, e := Take(b, at); n != 0 || next != 0 || e != want {
		t.Errorf("Take(%v, %d) = %d, %d, %d, want error %d", b, at, n, next, e, want)
	}
}

func TestTakeOffsetOutOfRange(t *testing.T) {
	for _, b := range [][]byte{nil, {}, {0}, {128}, {172, 2}, repeat(255, 12)} {
		for _, at := range []int{math.MinInt, -11, -2, -1, len(b) + 1, len(b) + 2, len(b) + 10, math.MaxInt} {
			wantError(t, b, at, api.ErrArg)
		}
	}
	// The spare capacity is no part of the bytes.
	whole := make([]byte, 8)
	wantError(t, whole[:3], 4, api.ErrArg)
	wantError(t, whole[:3], 3, api.ErrShort)
}

func TestTakeShort(t *testing.T) {
	for many := range 10 {
		for _, c := range []byte{128, 129, 255} {
			wantError(t, repeat(c, many), 0, api.ErrShort)
			// Bytes before the offset neither count nor end the number.
			wantError(t, append([]byte{0, 1, 200}, repeat(c, many)...), 3, api.ErrShort)
		}
	}
	for _, n := range []uint64{128, 1 << 14, 1 << 35, 1 << 63, math.MaxUint64} {
		whole := groups(n)
		for length := range len(whole) {
			wantError(t, whole[:length], 0, api.ErrShort)
		}
	}
}

func TestTakeNotMinimal(t *testing.T) {
	for many := 1; many < 10; many++ {
		for _, c := range []byte{128, 129, 255} {
			wantError(t, repeat(c, many, 0), 0, api.ErrForm)
			wantError(t, repeat(c, many, 0, 1, 2), 0, api.ErrForm)
			wantError(t, append([]byte{0, 1, 200}, repeat(c, many, 0)...), 3, api.ErrForm)
		}
	}
}

func TestTakeTooGreat(t *testing.T) {
	for last := byte(2); last < 128; last++ {
		wantError(t, repeat(255, 9, last), 0, api.ErrForm)
		wantError(t, repeat(128, 9, last), 0, api.ErrForm)
	}
	wantError(t, append([]byte{0, 200}, repeat(255, 9, 2)...), 2, api.ErrForm)
}

func TestTakeTooLong(t *testing.T) {
	for many := 10; many < 25; many++ {
		for _, c := range []byte{128, 129, 255} {
			wantError(t, repeat(c, many), 0, api.ErrForm)
			wantError(t, repeat(c, many, 0), 0, api.ErrForm)
			wantError(t, repeat(c, many, 1), 0, api.ErrForm)
			wantError(t, append([]byte{0, 1}, repeat(c, many, 1)...), 2, api.ErrForm)
		}
	}
}

// checkUnique compares Take with the encodings alone: the bytes up to the first
// one below 128 are accepted exactly if some number is encoded as they are.
func checkUnique(t *testing.T, b []byte, at int) {
	t.Helper()
	n, next, e := Take(b, at)
	if at < 0 || at > len(b) {
		if n != 0 || next != 0 || e != api.ErrArg {
			t.Fatalf("Take(%v, %d) = %d, %d, %d", b, at, n, next, e)
		}
		return
	}
	size := slices.IndexFunc(b[at:], func(c byte) bool { return c < 128 }) + 1
	want := api.OK
	guess, read := binary.Uvarint(b[at:])
	switch {
	case size == 0 && len(b)-at < 10:
		want = api.ErrShort
	case size == 0 || read != size || !bytes.Equal(groups(guess), b[at:at+size]):
		want = api.ErrForm
	}
	if e != want {
		t.Fatalf("Take(%v, %d) returned error %d, want %d", b, at, e, want)
	}
	if e == api.OK && (n != guess || next != at+size || !bytes.Equal(Put(b[:at], n), b[:next])) {
		t.Fatalf("Take(%v, %d) = %d, %d, want %d, %d", b, at, n, next, guess, at+size)
	}
	if e != api.OK && (n != 0 || next != 0) {
		t.Fatalf("Take(%v, %d) = %d, %d beside error %d", b, at, n, next, e)
	}
}

func TestTakeAllShortTexts(t *testing.T) {
	checkUnique(t, nil, 0)
	for first := range 256 {
		checkUnique(t, []byte{byte(first)}, 0)
		for second := range 256 {
			for _, third := range []byte{0, 1, 127, 128, 255} {
				b := []byte{byte(first), byte(second), third}
				checkUnique(t, b[:2], 0)
				for at := -1; at <= 4; at++ {
					checkUnique(t, b, at)
				}
			}
		}
	}
}

func TestTakeAllEndsOfLongTexts(t *testing.T) {
	for many := range 12 {
		for _, c := range []byte{128, 170, 255} {
			for last := range 256 {
				checkUnique(t, repeat(c, many, byte(last)), 0)
				checkUnique(t, repeat(c, many, byte(last), 0), 0)
				checkUnique(t, repeat(c, many, byte(last), 128, 1), 0)
			}
		}
	}
}

func TestTakeChangesNothing(t *testing.T) {
	for _, b := range [][]byte{{172, 2}, {128, 0}, {128, 128}, repeat(255, 9, 1), repeat(255, 12)} {
		whole := append(slices.Clone(b), repeat(77, 20)...)
		before := slices.Clone(whole)
		for at := -1; at <= len(b)+1; at++ {
			Take(whole[:len(b)], at)
		}
		if !bytes.Equal(whole, before) {
			t.Errorf("Take changed its argument to %v", whole)
		}
	}
}

func FuzzTake(f *testing.F) {
	f.Add([]byte{172, 2}, 0)
	f.Add([]byte{1, 128, 0}, 1)
	f.Add(repeat(255, 9, 1), 0)
	f.Add(repeat(255, 9, 2), -1)
	f.Fuzz(func(t *testing.T, b []byte, at int) {
		checkUnique(t, b, at)
	})
}
