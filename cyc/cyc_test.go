package cyc

import (
	"bytes"
	"encoding/binary"
	"hash/crc32"
	"math/bits"
	"math/rand"
	"slices"
	"testing"
)

// plainSum follows the words of P2.2 by division instead of shifts, for the
// parts joined beforehand.
func plainSum(t [256]uint32, text []byte) uint32 {
	sum := uint64(0xFFFFFFFF)
	for _, c := range text {
		sum = uint64(t[(sum^uint64(c))%256]) ^ sum/256
	}
	return uint32(sum) ^ 0xFFFFFFFF
}

// tables holds Table() and others, most of which no polynomial produces.
func tables() map[string][256]uint32 {
	all := map[string][256]uint32{
		"ieee":       Table(),
		"castagnoli": [256]uint32(*crc32.MakeTable(crc32.Castagnoli)),
		"koopman":    [256]uint32(*crc32.MakeTable(crc32.Koopman)),
		"zero":       {},
	}
	r := rand.New(rand.NewSource(2))
	var ones, index, random, first, last [256]uint32
	for i := range 256 {
		ones[i] = 0xFFFFFFFF
		index[i] = uint32(i)
		random[i] = r.Uint32()
	}
	first[0], last[255] = 0x80000001, 0xFFFFFFFF
	all["ones"], all["index"], all["random"] = ones, index, random
	all["first"], all["last"] = first, last
	return all
}

// texts holds the empty text, every text of one byte, and longer ones.
func texts() [][]byte {
	out := [][]byte{nil, {}, []byte("123456789"), bytes.Repeat([]byte{0}, 40), bytes.Repeat([]byte{255}, 40)}
	for c := range 256 {
		out = append(out, []byte{byte(c)}, []byte{byte(c), 0}, []byte{0, byte(c), 255})
	}
	for length := range 70 {
		out = append(out, noise(length))
	}
	return append(out, noise(1000), noise(70000))
}

func noise(length int) []byte {
	b := make([]byte, length)
	rand.New(rand.NewSource(int64(length))).Read(b)
	return b
}

func overwrite(b []byte) {
	for i := range b {
		b[i] = 99
	}
}

func TestTableKnown(t *testing.T) {
	table := Table()
	for c, want := range map[int]uint32{
		0: 0, 1: 0x77073096, 2: 0xEE0E612C, 3: 0x990951BA, 4: 0x076DC419,
		16: 0x1DB71064, 64: 0x76DC4190, 127: 0xC0BA6CAD, 128: 0xEDB88320, 254: 0x5A05DF1B, 255: 0x2D02EF8D,
	} {
		if table[c] != want {
			t.Errorf("Table()[%d] = %#x, want %#x", c, table[c], want)
		}
	}
}

func TestTableSteps(t *testing.T) {
	table := Table()
	library := crc32.MakeTable(crc32.IEEE)
	for c := range 256 {
		n := uint64(c)
		for step := 1; step <= 8; step++ {
			if n%2 == 0 {
				n = n / 2
			} else {
				n = (n - 1) / 2
				n ^= 0xEDB88320
			}
		}
		if uint64(table[c]) != n {
			t.Errorf("Table()[%d] = %#x, want %#x", c, table[c], n)
		}
		if table[c] != library[c] {
			t.Errorf("Table()[%d] = %#x, the library has %#x", c, table[c], library[c])
		}
	}
}

func TestTableIsNewEachTime(t *testing.T) {
	first := Table()
	for i := range first {
		first[i] = 7
	}
	if second := Table(); second != [256]uint32(*crc32.MakeTable(crc32.IEEE)) {
		t.Error("a changed table changed the next one")
	}
}

func TestSumKnown(t *testing.T) {
	for text, want := range map[string]uint32{
		"":                 0,
		"\x00":             0xD202EF8D,
		"\x00\x00\x00\x00": 0x2144DF1C,
		"\xFF\xFF\xFF\xFF": 0xFFFFFFFF,
		"a":                0xE8B7BE43,
		"abc":              0x352441C2,
		"123456789":        0xCBF43926,
		"The quick brown fox jumps over the lazy dog": 0x414FA339,
	} {
		if got := Sum(Table(), []byte(text)); got != want {
			t.Errorf("the sum of %q is %#x, want %#x", text, got, want)
		}
	}
}

func TestSumWithLibrary(t *testing.T) {
	all := tables()
	for name, polynomial := range map[string]uint32{"ieee": crc32.IEEE, "castagnoli": crc32.Castagnoli, "koopman": crc32.Koopman} {
		library := crc32.MakeTable(polynomial)
		for _, text := range texts() {
			if got, want := Sum(all[name], text), crc32.Checksum(text, library); got != want {
				t.Fatalf("%s: the sum of %d bytes is %#x, want %#x", name, len(text), got, want)
			}
		}
	}
}

func TestSumWithEveryTable(t *testing.T) {
	for name, table := range tables() {
		for _, text := range texts() {
			if got, want := Sum(table, text), plainSum(table, text); got != want {
				t.Fatalf("%s: the sum of %d bytes is %#x, want %#x", name, len(text), got, want)
			}
		}
	}
}

func TestSumOfOtherTablesKnown(t *testing.T) {
	var zero, ones, single [256]uint32
	for i := range 256 {
		ones[i] = 0xFFFFFFFF
	}
	single[255^1] = 0x12345678 // the entry that 1 as the first byte selects
	cases := []struct {
		table [256]uint32
		text  []byte
		want  uint32
	}{
		{zero, nil, 0},
		{zero, []byte{1}, 0xFF000000},
		{zero, []byte{1, 2}, 0xFFFF0000},
		{zero, []byte{1, 2, 3}, 0xFFFFFF00},
		{zero, []byte{1, 2, 3, 4}, 0xFFFFFFFF},
		{zero, []byte{1, 2, 3, 4, 5}, 0xFFFFFFFF},
		{ones, nil, 0},
		{ones, []byte{9}, 0x00FFFFFF},
		{ones, []byte{9, 9}, 0x00FF0000},
		{single, []byte{0}, 0xFF000000},
		{single, []byte{1}, 0xED345678},
		{single, []byte{2}, 0xFF000000},
	}
	for _, c := range cases {
		if got := Sum(c.table, c.text); got != c.want {
			t.Errorf("the sum of %v is %#x, want %#x", c.text, got, c.want)
		}
	}
}

func TestSumOfNothing(t *testing.T) {
	for name, table := range tables() {
		for _, parts := range [][][]byte{nil, {}, {nil}, {{}}, {nil, {}, nil}, make([][]byte, 300)} {
			if got := Sum(table, parts...); got != 0 {
				t.Errorf("%s: the sum of %d empty parts is %#x, want 0", name, len(parts), got)
			}
		}
		if got := Sum(table); got != 0 {
			t.Errorf("%s: the sum without parts is %#x, want 0", name, got)
		}
	}
}

func checkParts(t *testing.T, table [256]uint32, parts ...[]byte) {
	t.Helper()
	whole := slices.Concat(parts...)
	if got, want := Sum(table, parts...), plainSum(table, whole); got != want {
		t.Fatalf("the sum of %d bytes in %d parts is %#x, want %#x", len(whole), len(parts), got, want)
	}
}

func TestSumOfDividedText(t *testing.T) {
	text := noise(12)
	for _, table := range tables() {
		for i := range len(text) + 1 {
			checkParts(t, table, text[:i], text[i:])
			checkParts(t, table, nil, text[:i], nil, []byte{}, text[i:], nil)
			for k := i; k <= len(text); k++ {
				checkParts(t, table, text[:i], text[i:k], text[k:])
			}
		}
		for size := 1; size <= len(text); size++ {
			checkParts(t, table, slices.Collect(slices.Chunk(text, size))...)
		}
	}
}

func TestSumOfPartsInOrder(t *testing.T) {
	table := Table()
	one := Sum(table, []byte("123"), []byte("456789"))
	if one != 0xCBF43926 {
		t.Errorf("the sum of the example in two parts is %#x", one)
	}
	if other := Sum(table, []byte("456789"), []byte("123")); other != crc32.ChecksumIEEE([]byte("456789123")) {
		t.Errorf("the sum of the parts in the other order is %#x", other)
	}
	same := noise(5)
	checkParts(t, table, same, same, same)
}

func TestSumOfManyParts(t *testing.T) {
	r := rand.New(rand.NewSource(3))
	for _, table := range tables() {
		for range 20 {
			var parts [][]byte
			for range r.Intn(40) {
				parts = append(parts, noise(r.Intn(9)))
			}
			checkParts(t, table, parts...)
		}
	}
}

func TestSumChangesNothing(t *testing.T) {
	whole := noise(64)
	parts := [][]byte{whole[:10], nil, whole[20:25], whole[40:40], noise(3), noise(4)}
	before := [][]byte{slices.Clone(parts[0]), nil, slices.Clone(parts[2]), {}, noise(3), noise(4)}
	first := Sum(Table(), parts[:5]...)
	if !bytes.Equal(whole, noise(64)) {
		t.Error("Sum changed its parts or their spare capacity")
	}
	if !slices.EqualFunc(parts, before, bytes.Equal) {
		t.Error("Sum changed the list of its parts")
	}
	if second := Sum(Table(), parts[:5]...); second != first {
		t.Errorf("the same parts have the sums %#x and %#x", first, second)
	}
	overwrite(whole)
	if other := Sum(Table(), noise(3)); other != crc32.ChecksumIEEE(noise(3)) {
		t.Error("a sum depends on an earlier call")
	}
}

func TestPutKnown(t *testing.T) {
	for sum, want := range map[uint32][]byte{
		0:          {0, 0, 0, 0},
		1:          {1, 0, 0, 0},
		255:        {255, 0, 0, 0},
		256:        {0, 1, 0, 0},
		1 << 16:    {0, 0, 1, 0},
		1 << 24:    {0, 0, 0, 1},
		1 << 31:    {0, 0, 0, 128},
		0xA1B2C3D4: {0xD4, 0xC3, 0xB2, 0xA1},
		0xCBF43926: {0x26, 0x39, 0xF4, 0xCB},
		0xFFFFFFFF: {255, 255, 255, 255},
	} {
		for _, b := range [][]byte{nil, {}, {0}, {255}, {0xD4, 0xC3, 0xB2, 0xA1}, noise(300)} {
			if got := Put(b, sum); !bytes.Equal(got, slices.Concat(b, want)) {
				t.Errorf("Put(%v, %#x) = %v", b, sum, got)
			}
		}
	}
}

func TestPutEveryBit(t *testing.T) {
	for bit := range 32 {
		for _, sum := range []uint32{1 << bit, ^uint32(1 << bit)} {
			if got, want := Put([]byte{7}, sum), binary.LittleEndian.AppendUint32([]byte{7}, sum); !bytes.Equal(got, want) {
				t.Errorf("Put([7], %#x) = %v, want %v", sum, got, want)
			}
		}
	}
}

func TestPutLeavesSpareCapacity(t *testing.T) {
	for _, length := range []int{0, 1, 5, 36, 37, 40} {
		whole := noise(40)
		Put(whole[:length], 0xA1B2C3D4)
		if !bytes.Equal(whole, noise(40)) {
			t.Errorf("Put after %d bytes changed its argument: %v", length, whole)
		}
	}
}

func TestPutSharesNothing(t *testing.T) {
	for _, length := range []int{0, 1, 5, 36, 37, 40} {
		whole := noise(40)
		first, second := Put(whole[:length], 0xA1B2C3D4), Put(whole[:length], 0xA1B2C3D4)
		want := slices.Concat(whole[:length], []byte{0xD4, 0xC3, 0xB2, 0xA1})
		overwrite(first[:cap(first)])
		if !bytes.Equal(whole, noise(40)) {
			t.Errorf("length %d: the result shares memory with the argument", length)
		}
		if !bytes.Equal(second, want) {
			t.Errorf("length %d: two results share memory", length)
		}
		overwrite(whole)
		if !bytes.Equal(second, want) {
			t.Errorf("length %d: the result changed with the argument", length)
		}
	}
}

// flip returns text with some of its bits changed: those of a pattern, whose
// lowest bit falls on the bit of text at an offset.
func flip(text []byte, offset int, pattern uint32) []byte {
	out := slices.Clone(text)
	for i := range 32 {
		if at := offset + i; pattern>>i&1 == 1 && at < 8*len(text) {
			out[at/8] ^= 1 << (at % 8)
		}
	}
	return out
}

// TestTableIsLinear carries the two tests below it: the XOR of the sums of two
// texts of equal length then depends on the XOR of the texts alone, and bits
// that are changed together change the sum as each of them does, XORed.
func TestTableIsLinear(t *testing.T) {
	table := Table()
	for a := range 256 {
		for b := range 256 {
			if table[a^b] != table[a]^table[b] {
				t.Fatalf("the entries of %d and %d do not XOR to that of %d", a, b, a^b)
			}
		}
	}
}

// rank counts how many of the numbers no XOR of others among them equals.
func rank(list []uint32) int {
	var reduced [32]uint32
	count := 0
	for _, n := range list {
		for n != 0 {
			top := bits.Len32(n) - 1
			if reduced[top] == 0 {
				reduced[top] = n
				count++
				break
			}
			n ^= reduced[top]
		}
	}
	return count
}

// TestEveryChangeWithin32Bits covers all 2^32 changes of each window at once:
// if the effects of its single bits are independent, no XOR of them is zero.
func TestEveryChangeWithin32Bits(t *testing.T) {
	table := Table()
	for _, length := range []int{1, 2, 3, 4, 5, 6, 7, 8, 9, 16, 33, 64, 260} {
		text := noise(length)
		sum := Sum(table, text)
		var effects []uint32
		for at := range 8 * length {
			effects = append(effects, Sum(table, flip(text, at, 1))^sum)
		}
		for at := range effects {
			window := effects[at:min(at+32, len(effects))]
			if rank(window) != len(window) {
				t.Fatalf("some change within 32 bits at bit %d of %d bytes keeps the sum", at, length)
			}
		}
	}
}

func TestChangesWithin32Bits(t *testing.T) {
	table := Table()
	r := rand.New(rand.NewSource(4))
	for _, length := range []int{1, 2, 3, 4, 5, 8, 13, 64} {
		for at := range 8 * length {
			patterns := []uint32{1, 3, 0x80000001, 0xFFFFFFFF, 0xEDB88320, 0xDB710641, 0x04C11DB7}
			for range 40 {
				patterns = append(patterns, r.Uint32())
			}
			for _, text := range [][]byte{make([]byte, length), bytes.Repeat([]byte{255}, length), noise(length)} {
				for _, pattern := range patterns {
					other := flip(text, at, pattern)
					if !bytes.Equal(other, text) && Sum(table, other) == Sum(table, text) {
						t.Fatalf("changing %#x at bit %d of %v keeps the sum", pattern, at, text)
					}
				}
			}
		}
	}
}

// TestSmallTextsDiffer compares texts instead of changes: all texts of a
// window of two bytes, alone or within a longer text, have different sums.
func TestSmallTextsDiffer(t *testing.T) {
	table := Table()
	for _, before := range [][]byte{nil, {0}, {200, 1, 77}} {
		for _, after := range [][]byte{nil, {0}, {255, 0, 3, 128, 64}} {
			seen := map[uint32]int{}
			for n := range 1 << 16 {
				sum := Sum(table, before, []byte{byte(n), byte(n >> 8)}, after)
				if other, ok := seen[sum]; ok {
					t.Fatalf("%d and %d between %v and %v have the same sum", other, n, before, after)
				}
				seen[sum] = n
			}
		}
	}
}

func FuzzSum(f *testing.F) {
	f.Add([]byte("123456789"), 3, 5, uint32(1))
	f.Add([]byte{}, 0, 0, uint32(0xFFFFFFFF))
	f.Add([]byte{0, 255, 0, 255, 0}, -1, 9, uint32(0xEDB88320))
	f.Fuzz(func(t *testing.T, text []byte, cut, at int, pattern uint32) {
		i := int(uint(cut) % uint(len(text)+1))
		sum := Sum(Table(), text[:i], text[i:])
		if sum != crc32.ChecksumIEEE(text) {
			t.Fatalf("the sum of %v, divided at %d, is %#x", text, i, sum)
		}
		offset := int(uint(at) % uint(8*len(text)+1))
		other := flip(text, offset, pattern)
		if !bytes.Equal(other, text) && Sum(Table(), other) == sum {
			t.Fatalf("changing %#x at bit %d of %v keeps the sum", pattern, offset, text)
		}
		if got := Put(text, sum); !bytes.Equal(got, binary.LittleEndian.AppendUint32(slices.Clone(text), sum)) {
			t.Fatalf("Put(%v, %#x) = %v", text, sum, got)
		}
	})
}
