package chunk

import (
	"bytes"
	"encoding/binary"
	"hash/crc32"
	"math"
	"math/rand"
	"slices"
	"testing"

	"pursuivant/api"
	"pursuivant/cyc"
)

// tables holds Table() and others, most of which no polynomial produces.
func tables() map[string][256]uint32 {
	r := rand.New(rand.NewSource(3))
	var random, index [256]uint32
	for i := range 256 {
		random[i] = r.Uint32()
		index[i] = uint32(i)
	}
	return map[string][256]uint32{
		"ieee":       cyc.Table(),
		"castagnoli": [256]uint32(*crc32.MakeTable(crc32.Castagnoli)),
		"zero":       {},
		"index":      index,
		"random":     random,
	}
}

// lengths holds those around each multiple of 256, and around those where the
// number of bytes gets another length.
func lengths() []int {
	out := []int{0, 1, 2, 3, 5, 126, 127, 128, 129, 254}
	for _, many := range []int{1, 2, 3, 4, 16, 64} {
		out = append(out, 256*many-1, 256*many, 256*many+1, 256*many+128)
	}
	return out
}

func noise(length int) []byte {
	b := make([]byte, length)
	rand.New(rand.NewSource(int64(length))).Read(b)
	return b
}

func counting(length int) []byte {
	b := make([]byte, length)
	for i := range b {
		b[i] = byte(i)
	}
	return b
}

func overwrite(b []byte) {
	for i := range b {
		b[i] = 99
	}
}

func join(parts ...[]byte) []byte {
	return slices.Concat(parts...)
}

// sealed is the bytes given, followed by their checksum as the library has it.
func sealed(table [256]uint32, text ...byte) []byte {
	sum := crc32.Checksum(text, (*crc32.Table)(&table))
	return binary.LittleEndian.AppendUint32(slices.Clone(text), sum)
}

// one is a piece with a correct checksum and any number.
func one(table [256]uint32, number uint64, body ...byte) []byte {
	return sealed(table, join(binary.AppendUvarint(nil, number), body)...)
}

// whole is a piece that is correct if it stands at the right place.
func whole(table [256]uint32, size int) []byte {
	return one(table, uint64(size), noise(size)...)
}

// plainPack follows the words of the chapter with the library's encodings.
func plainPack(table [256]uint32, b []byte) []byte {
	var out []byte
	rest := b
	for len(rest) > 256 {
		out = append(out, one(table, 256, rest[:256]...)...)
		rest = rest[256:]
	}
	if len(rest) > 0 {
		out = append(out, one(table, uint64(len(rest)), rest...)...)
	}
	return append(out, one(table, 0)...)
}

// plainNumber follows the words of P1.2 with the library's decoding.
func plainNumber(rest []byte) (uint64, int, api.Errno) {
	n, size := binary.Uvarint(rest)
	if size == 0 && len(rest) < 10 {
		return 0, 0, api.ErrShort
	}
	if size <= 0 || len(binary.AppendUvarint(nil, n)) != size {
		return 0, 0, api.ErrForm
	}
	return n, size, api.OK
}

// plainUnpack follows the words of P3.2, piece by piece on what remains of s.
func plainUnpack(table [256]uint32, s []byte, at int) ([]byte, int, api.Errno) {
	if at < 0 || at > len(s) {
		return nil, 0, api.ErrArg
	}
	var out []byte
	rest := s[at:]
	for previous := uint64(256); ; {
		n, size, e := plainNumber(rest)
		if e != api.OK {
			return nil, 0, e
		}
		if n > 256 {
			return nil, 0, api.ErrOver
		}
		if n != 0 && previous < 256 {
			return nil, 0, api.ErrOrder
		}
		end := size + int(n)
		if end > len(rest) || end+4 > len(rest) {
			return nil, 0, api.ErrShort
		}
		if !bytes.Equal(sealed(table, rest[:end]...), rest[:end+4]) {
			return nil, 0, api.ErrSum
		}
		out = append(out, rest[size:end]...)
		rest = rest[end+4:]
		if previous = n; n == 0 {
			return out, len(s) - len(rest), api.OK
		}
	}
}

// checkPlain compares Unpack with plainUnpack, and what it accepts with Pack.
func checkPlain(t *testing.T, table [256]uint32, s []byte, at int) {
	t.Helper()
	b, next, e := Unpack(table, s, at)
	wantB, wantNext, wantE := plainUnpack(table, s, at)
	if !bytes.Equal(b, wantB) || next != wantNext || e != wantE {
		t.Fatalf("Unpack(%v, %d) = %v, %d, %d, want %v, %d, %d", s, at, b, next, e, wantB, wantNext, wantE)
	}
	if e == api.OK && !bytes.Equal(Pack(table, b), s[at:next]) {
		t.Fatalf("Unpack(%v, %d) accepted what Pack does not return", s, at)
	}
}

func checkBytes(t *testing.T, table [256]uint32, s []byte, at int, want []byte, wantNext int) {
	t.Helper()
	b, next, e := Unpack(table, s, at)
	if !bytes.Equal(b, want) || next != wantNext || e != api.OK {
		t.Fatalf("Unpack of %d bytes at %d = %d bytes, %d, error %d, want %d bytes, %d", len(s), at, len(b), next, e, len(want), wantNext)
	}
}

func checkError(t *testing.T, table [256]uint32, s []byte, at int, want api.Errno) {
	t.Helper()
	b, next, e := Unpack(table, s, at)
	if e != want {
		t.Fatalf("Unpack(%v, %d) returns error %d, want %d", s, at, e, want)
	}
	if len(b) != 0 || next != 0 {
		t.Fatalf("Unpack(%v, %d) = %v, %d beside error %d", s, at, b, next, e)
	}
}

// checkErrorAnywhere checks pieces alone, after a full piece, and with bytes
// ahead of their offset.
func checkErrorAnywhere(t *testing.T, table [256]uint32, s []byte, want api.Errno) {
	t.Helper()
	checkError(t, table, s, 0, want)
	checkError(t, table, join(whole(table, 256), s), 0, want)
	checkError(t, table, join(whole(table, 256), whole(table, 256), s), 0, want)
	checkError(t, table, join([]byte{0, 128, 1, 7}, s), 4, want)
}

func TestPackKnown(t *testing.T) {
	end := []byte{0, 141, 239, 2, 210}
	full := join([]byte{128, 2}, counting(256), []byte{39, 113, 142, 121})
	cases := []struct {
		b    []byte
		want []byte
	}{
		{nil, end},
		{[]byte{}, end},
		{[]byte("hi"), join([]byte{2, 'h', 'i', 47, 53, 143, 101}, end)},
		{[]byte("a"), join([]byte{1, 'a', 112, 114, 119, 98}, end)},
		{counting(127), join([]byte{127}, counting(127), []byte{113, 199, 194, 186}, end)},
		{counting(128), join([]byte{128, 1}, counting(128), []byte{122, 26, 57, 51}, end)},
		{counting(255), join([]byte{255, 1}, counting(255), []byte{72, 105, 48, 169}, end)},
		{counting(256), join(full, end)},
		{join(counting(256), []byte("a")), join(full, []byte{1, 'a', 112, 114, 119, 98}, end)},
		{join(counting(256), counting(256)), join(full, full, end)},
	}
	for _, c := range cases {
		if got := Pack(cyc.Table(), c.b); !bytes.Equal(got, c.want) {
			t.Errorf("Pack(%v) = %v, want %v", c.b, got, c.want)
		}
		checkBytes(t, cyc.Table(), c.want, 0, c.b, len(c.want))
	}
}

func TestPackSizes(t *testing.T) {
	for length, want := range map[int]int{0: 5, 1: 11, 127: 137, 128: 139, 255: 266, 256: 267, 257: 273, 512: 529, 513: 535, 2560: 2625} {
		for name, table := range tables() {
			if got := len(Pack(table, noise(length))); got != want {
				t.Errorf("%s: %d bytes in pieces are %d, want %d", name, length, got, want)
			}
		}
	}
}

func TestPackEveryLength(t *testing.T) {
	all := lengths()
	for length := range 800 {
		all = append(all, length)
	}
	for name, table := range tables() {
		for _, length := range all {
			b := noise(length)
			if got := Pack(table, b); !bytes.Equal(got, plainPack(table, b)) {
				t.Fatalf("%s: %d bytes in pieces are %v", name, length, got)
			}
		}
	}
}

func TestPackContent(t *testing.T) {
	for _, table := range tables() {
		for _, length := range []int{1, 5, 256, 300, 512} {
			for _, c := range []byte{0, 1, 127, 128, 255} {
				b := bytes.Repeat([]byte{c}, length)
				s := Pack(table, b)
				if !bytes.Equal(s, plainPack(table, b)) {
					t.Fatalf("%d times %d in pieces are %v", length, c, s)
				}
				checkBytes(t, table, s, 0, b, len(s))
			}
		}
	}
}

func TestPackOfPieces(t *testing.T) {
	table := cyc.Table()
	b := noise(300)
	for range 4 {
		s := Pack(table, b)
		checkBytes(t, table, s, 0, b, len(s))
		b = s
	}
}

func TestUnpackEveryLength(t *testing.T) {
	around := [][]byte{nil, {0}, {255}, {128, 2, 0}, noise(1), noise(300)}
	for _, table := range tables() {
		for _, length := range lengths() {
			b := noise(length)
			s := Pack(table, b)
			for _, before := range around {
				for _, after := range append(around, Pack(table, b), one(table, 1, 9)) {
					checkBytes(t, table, join(before, s, after), len(before), b, len(before)+len(s))
				}
			}
		}
	}
}

func TestUnpackOneAfterAnother(t *testing.T) {
	for _, table := range tables() {
		var s []byte
		for _, length := range lengths() {
			s = append(s, Pack(table, noise(length))...)
		}
		at := 0
		for _, length := range lengths() {
			b, next, e := Unpack(table, s, at)
			if !bytes.Equal(b, noise(length)) || next != at+len(Pack(table, b)) || e != api.OK {
				t.Fatalf("Unpack at %d = %d bytes, %d, error %d", at, len(b), next, e)
			}
			at = next
		}
		if at != len(s) {
			t.Fatalf("%d of %d bytes were read", at, len(s))
		}
		checkError(t, table, s, at, api.ErrShort)
	}
}

func TestUnpackEveryOffset(t *testing.T) {
	for _, table := range tables() {
		for _, s := range [][]byte{nil, {0}, Pack(table, nil), Pack(table, noise(20)), Pack(table, noise(300)), Pack(table, Pack(table, noise(30))), join(Pack(table, noise(256)), Pack(table, noise(1)), Pack(table, nil))} {
			for at := -2; at <= len(s)+2; at++ {
				checkPlain(t, table, s, at)
			}
		}
	}
}

func TestUnpackOffsetOutside(t *testing.T) {
	table := cyc.Table()
	for _, s := range [][]byte{nil, {}, {0}, {128, 0}, {129, 2}, Pack(table, nil), Pack(table, noise(600))} {
		for _, at := range []int{-1, -5, -len(s) - 1, -256, math.MinInt32, math.MinInt, math.MinInt + 4} {
			checkError(t, table, s, at, api.ErrArg)
		}
		for _, more := range []int{1, 2, 5, 256, math.MaxInt32} {
			checkError(t, table, s, len(s)+more, api.ErrArg)
		}
		checkError(t, table, s, math.MaxInt, api.ErrArg)
		checkError(t, table, s, math.MaxInt-3, api.ErrArg)
		checkError(t, table, s, len(s), api.ErrShort)
	}
}

func TestUnpackNumberNotAccepted(t *testing.T) {
	forms := [][]byte{
		{128, 0},
		{129, 0},
		{255, 128, 0},
		{128, 130, 0},
		join(bytes.Repeat([]byte{128}, 9), []byte{0}),
		join(bytes.Repeat([]byte{255}, 9), []byte{2}),
		join(bytes.Repeat([]byte{255}, 9), []byte{127}),
		bytes.Repeat([]byte{128}, 10),
		bytes.Repeat([]byte{255}, 10),
		join(bytes.Repeat([]byte{128}, 10), []byte{1}),
	}
	for _, table := range tables() {
		for _, form := range forms {
			checkErrorAnywhere(t, table, form, api.ErrForm)
			checkErrorAnywhere(t, table, sealed(table, form...), api.ErrForm)
			checkErrorAnywhere(t, table, join(sealed(table, join(form, noise(1))...), one(table, 0)), api.ErrForm)
			checkError(t, table, join(whole(table, 3), form), 0, api.ErrForm)
		}
		for many := range 10 {
			form := bytes.Repeat([]byte{200}, many)
			checkErrorAnywhere(t, table, form, api.ErrShort)
			checkError(t, table, join(whole(table, 3), form), 0, api.ErrShort)
		}
	}
}

func TestUnpackNumberAboveLimit(t *testing.T) {
	numbers := []uint64{257, 258, 300, 511, 512, 513, 1 << 14, 1 << 16, 1<<31 - 1, 1 << 31, 1 << 32, 1<<32 + 1, 1<<32 + 256, 1<<63 - 1, 1 << 63, 1<<63 + 1, math.MaxUint64 - 255, math.MaxUint64 - 3, math.MaxUint64}
	for _, table := range tables() {
		for _, n := range numbers {
			number := binary.AppendUvarint(nil, n)
			checkErrorAnywhere(t, table, number, api.ErrOver)
			checkErrorAnywhere(t, table, join(number, noise(2000)), api.ErrOver)
			checkErrorAnywhere(t, table, join(one(table, n, noise(int(n%1024))...), one(table, 0)), api.ErrOver)
			checkErrorAnywhere(t, table, join(one(table, n, noise(int(n%256))...), one(table, 0)), api.ErrOver)
		}
	}
}

func TestUnpackAfterShortPiece(t *testing.T) {
	table := cyc.Table()
	for first := 1; first <= 256; first++ {
		for _, second := range []int{0, 1, 2, 127, 128, 255, 256} {
			s := join(whole(table, first), whole(table, second), whole(table, 0))
			switch {
			case first < 256 && second > 0:
				checkErrorAnywhere(t, table, s, api.ErrOrder)
			case second == 0:
				checkBytes(t, table, s, 0, noise(first), len(s)-5)
			default:
				checkBytes(t, table, s, 0, join(noise(first), noise(second)), len(s))
			}
		}
	}
}

func TestUnpackAfterShortPieceEveryTable(t *testing.T) {
	for _, table := range tables() {
		for _, first := range []int{1, 128, 255} {
			for _, second := range []int{1, 128, 256} {
				checkErrorAnywhere(t, table, join(whole(table, first), whole(table, second), whole(table, 0)), api.ErrOrder)
			}
		}
	}
}

func TestUnpackWithoutEnd(t *testing.T) {
	for _, table := range tables() {
		for _, size := range []int{1, 128, 255, 256} {
			checkErrorAnywhere(t, table, whole(table, size), api.ErrShort)
		}
	}
}

// TestUnpackEndsEarly lets the missing bytes stand in the spare capacity,
// where they do not count.
func TestUnpackEndsEarly(t *testing.T) {
	for _, table := range tables() {
		for _, length := range []int{0, 1, 4, 127, 128, 255, 256, 257, 512, 600} {
			s := join([]byte{7, 0}, Pack(table, noise(length)))
			for end := 2; end < len(s); end++ {
				checkError(t, table, s[:end], 2, api.ErrShort)
				checkError(t, table, slices.Clip(slices.Clone(s[:end])), 2, api.ErrShort)
			}
		}
	}
}

func TestUnpackWrongSumEveryBit(t *testing.T) {
	table := cyc.Table()
	for _, length := range []int{0, 1, 5, 127, 128, 256, 257, 300} {
		s := Pack(table, noise(length))
		for at := range s {
			for bit := range 8 {
				other := slices.Clone(s)
				other[at] ^= 1 << bit
				checkPlain(t, table, other, 0)
				if _, _, e := Unpack(table, other, 0); e == api.OK {
					t.Fatalf("a change of bit %d of byte %d of %v was not detected", bit, at, s)
				}
			}
		}
	}
}

func TestUnpackWrongSum(t *testing.T) {
	for name, table := range tables() {
		for _, size := range []int{0, 1, 4, 128, 255, 256} {
			p := whole(table, size)
			for back := 1; back <= 4; back++ {
				for _, change := range []byte{1, 128, 255} {
					other := slices.Clone(p)
					other[len(p)-back] ^= change
					checkErrorAnywhere(t, table, other, api.ErrSum)
					checkErrorAnywhere(t, table, join(other, whole(table, 0)), api.ErrSum)
				}
			}
			if size == 0 || name == "zero" || name == "index" {
				continue
			}
			number := binary.AppendUvarint(nil, uint64(size))
			alone := sealed(table, noise(size)...)
			checkErrorAnywhere(t, table, join(number, alone, whole(table, 0)), api.ErrSum)
			other := slices.Clone(p)
			slices.Reverse(other[len(other)-4:])
			checkErrorAnywhere(t, table, join(other, whole(table, 0)), api.ErrSum)
		}
	}
}

// TestUnpackWrongSumOfEnd changes the last piece after correct ones, which
// gives away whether its checksum is read at all.
func TestUnpackWrongSumOfEnd(t *testing.T) {
	for _, table := range tables() {
		for _, length := range []int{0, 1, 255, 256, 257, 512} {
			s := Pack(table, noise(length))
			s[len(s)-1] ^= 1
			checkError(t, table, s, 0, api.ErrSum)
			checkError(t, table, join(s, Pack(table, nil)), 0, api.ErrSum)
		}
	}
}

func TestUnpackWithAnotherTable(t *testing.T) {
	all := tables()
	for name, table := range all {
		for other, wrong := range all {
			for _, length := range []int{1, 30, 256, 300} {
				if name != other {
					checkError(t, wrong, Pack(table, noise(length)), 0, api.ErrSum)
				}
			}
		}
	}
}

// TestUnpackTableThatDetectsNothing has checksums that are equal for all texts
// of four or more bytes: the table given is the one that counts.
func TestUnpackTableThatDetectsNothing(t *testing.T) {
	s := Pack([256]uint32{}, noise(20))
	for at := 1; at <= 20; at++ {
		other := slices.Clone(s)
		other[at] ^= 255
		checkBytes(t, [256]uint32{}, other, 0, other[1:21], len(other))
	}
}

func TestUnpackOrderOfErrors(t *testing.T) {
	for _, table := range tables() {
		short := whole(table, 200)
		wrong := whole(table, 7)
		wrong[len(wrong)-1] ^= 1
		broken := join(short[:len(short)-1], []byte{short[len(short)-1] ^ 1})
		over := binary.AppendUvarint(nil, 257)
		cases := []struct {
			s    []byte
			want api.Errno
		}{
			{join(short, []byte{128, 0}), api.ErrForm},
			{join(short, []byte{129}), api.ErrShort},
			{join(short, over), api.ErrOver},
			{join(short, over, noise(300)), api.ErrOver},
			{join(short, one(table, 257, noise(257)...)), api.ErrOver},
			{join(short, []byte{1}), api.ErrOrder},
			{join(short, []byte{128, 2}, noise(100)), api.ErrOrder},
			{join(short, wrong), api.ErrOrder},
			{join(short, wrong, whole(table, 0)), api.ErrOrder},
			{join(short, wrong[:len(wrong)-1]), api.ErrOrder},
			{wrong[:len(wrong)-2], api.ErrShort},
			{wrong, api.ErrSum},
			{join(wrong, []byte{128, 0}), api.ErrSum},
			{join(wrong, over), api.ErrSum},
			{join(wrong, wrong), api.ErrSum},
			{join(broken, whole(table, 7)), api.ErrSum},
			{join(whole(table, 7), whole(table, 0)[:4]), api.ErrShort},
			{join(whole(table, 7), []byte{0, 1, 2, 3}), api.ErrShort},
			{join(whole(table, 7), whole(table, 7), []byte{128, 0}), api.ErrOrder},
			{join(whole(table, 7), whole(table, 256), over), api.ErrOrder},
		}
		for _, c := range cases {
			checkErrorAnywhere(t, table, c.s, c.want)
		}
	}
}

func TestUnpackChangedBytes(t *testing.T) {
	r := rand.New(rand.NewSource(5))
	for _, table := range tables() {
		for _, length := range []int{0, 1, 20, 255, 256, 300, 513} {
			s := Pack(table, noise(length))
			for range 2000 {
				other := slices.Clone(s)
				for range 1 + r.Intn(3) {
					other[r.Intn(len(other))] = byte(r.Intn(256))
				}
				checkPlain(t, table, other[:r.Intn(len(other)+1)], r.Intn(3))
				checkPlain(t, table, other, 0)
			}
		}
	}
}

func TestUnpackAllShortTexts(t *testing.T) {
	table := cyc.Table()
	for first := range 256 {
		checkPlain(t, table, []byte{byte(first)}, 0)
		for second := range 256 {
			checkPlain(t, table, []byte{byte(first), byte(second)}, 0)
			checkPlain(t, table, sealed(table, byte(first), byte(second)), 0)
			checkPlain(t, table, join(sealed(table, byte(first), byte(second)), one(table, 0)), 0)
			checkPlain(t, table, join(sealed(table, join([]byte{byte(first), byte(second)}, noise(128))...), one(table, 0)), 0)
		}
	}
}

func TestPackChangesNothing(t *testing.T) {
	for _, length := range []int{0, 1, 255, 256, 257, 600, 1000} {
		all := noise(1000)
		table := cyc.Table()
		Pack(table, all[:length])
		if !bytes.Equal(all, noise(1000)) {
			t.Errorf("Pack of %d bytes changed them or what is behind them", length)
		}
	}
}

// checkApart lets a function work on a part of all, twice, and checks that the
// results share no memory with all or with each other.
func checkApart(t *testing.T, all, want []byte, call func() []byte) {
	t.Helper()
	before := slices.Clone(all)
	first, second := call(), call()
	overwrite(first[:cap(first)])
	if !bytes.Equal(all, before) {
		t.Errorf("the result of %d bytes shares memory with the argument", len(want))
	}
	if !bytes.Equal(second, want) {
		t.Errorf("two results of %d bytes share memory", len(want))
	}
	overwrite(all)
	if !bytes.Equal(second, want) {
		t.Errorf("the result of %d bytes changed with the argument", len(want))
	}
}

func TestPackSharesNothing(t *testing.T) {
	table := cyc.Table()
	for _, length := range []int{0, 1, 255, 256, 257, 600, 1000} {
		all := noise(1000)
		checkApart(t, all, plainPack(table, all[:length]), func() []byte {
			return Pack(table, all[:length])
		})
	}
}

func TestUnpackChangesNothing(t *testing.T) {
	table := cyc.Table()
	all := join([]byte{1, 2, 3}, Pack(table, noise(600)), Pack(table, noise(10)), noise(500))
	before := slices.Clone(all)
	for at := -1; at <= len(all)+1; at++ {
		Unpack(table, all, at)
		for _, end := range []int{0, 3, 8, 300, 630, len(all) - 500} {
			Unpack(table, all[:end], at)
		}
	}
	if !bytes.Equal(all, before) {
		t.Error("Unpack changed its argument or what is behind it")
	}
}

func TestUnpackSharesNothing(t *testing.T) {
	table := cyc.Table()
	for _, length := range []int{0, 1, 255, 256, 257, 512, 600} {
		all := join([]byte{7}, Pack(table, noise(length)), noise(900))
		checkApart(t, all, noise(length), func() []byte {
			b, _, _ := Unpack(table, all[:len(all)-900], 1)
			return b
		})
	}
}

func TestNothingIsKept(t *testing.T) {
	table := cyc.Table()
	s := Pack(table, noise(300))
	for range 3 {
		checkError(t, table, join(whole(table, 3), whole(table, 3)), 0, api.ErrOrder)
		checkBytes(t, table, s, 0, noise(300), len(s))
		checkError(t, table, s[:len(s)-1], 0, api.ErrShort)
		if got := Pack(table, noise(300)); !bytes.Equal(got, s) {
			t.Fatalf("Pack returned %v, before %v", got, s)
		}
	}
}

// TestPiecesStop leaves off early, as a loop over an iterator function may.
func TestPiecesStop(t *testing.T) {
	for range bodies(noise(600)) {
		break
	}
	table := cyc.Table()
	for p, e := range pieces(table, Pack(table, noise(600)), 0) {
		if len(p.body) != 256 || e != api.OK {
			t.Errorf("the first piece has %d bytes, error %d", len(p.body), e)
		}
		break
	}
}

func FuzzUnpack(f *testing.F) {
	table := cyc.Table()
	f.Add(Pack(table, noise(3)), 0)
	f.Add(Pack(table, noise(300)), 0)
	f.Add(join([]byte{1}, Pack(table, nil)), 1)
	f.Add(join(whole(table, 3), whole(table, 2)), 0)
	f.Add([]byte{129, 2}, 0)
	f.Add([]byte{128, 0}, -1)
	f.Fuzz(func(t *testing.T, s []byte, at int) {
		checkPlain(t, table, s, at)
		checkPlain(t, [256]uint32{}, s, at)
		packed := Pack(table, s)
		if !bytes.Equal(packed, plainPack(table, s)) {
			t.Fatalf("Pack(%v) = %v", s, packed)
		}
		checkBytes(t, table, join(s, packed, s), len(s), s, len(s)+len(packed))
	})
}
