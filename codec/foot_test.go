package codec

import (
	"fmt"
	"math"
	"math/rand"
	"slices"
	"testing"

	"pursuivant/api"
)

// two is the draft of a transcript of 40 events in two groups: Foot does not read
// their encodings.
func two() *draft {
	d := drafted(40)
	d.group([]byte(long(300)))
	d.group([]byte(long(7)))
	return d
}

// footError checks the error of Foot, alone and as that of Decode.
func footError(t *testing.T, name string, b []byte, want api.Errno) {
	t.Helper()
	if many, places, e := foot(t, b); many != 0 || len(places) != 0 || e != want {
		t.Errorf("%s: Foot returns %d, %v, %d, want %d", name, many, places, e, want)
	}
	if list, e := decode(t, b); len(list) != 0 || e != want {
		t.Errorf("%s: Decode returns %s, %d, want %d", name, show(list), e, want)
	}
}

// footRight checks what Foot returns.
func footRight(t *testing.T, name string, b []byte, want int, wantPlaces ...int) {
	t.Helper()
	if many, places, e := foot(t, b); many != want || !slices.Equal(places, wantPlaces) || e != api.OK {
		t.Errorf("%s: Foot returns %d, %v, %d, want %d, %v", name, many, places, e, want, wantPlaces)
	}
}

func TestFoot(t *testing.T) {
	footRight(t, "no events", drafted(0).write(), 0, 3)
	footRight(t, "two groups", two().write(), 40, 3, 303, 310)
	one := drafted(1)
	one.group([]byte{1, 2, 3, 4, 5})
	footRight(t, "one group", one.write(), 1, 3, 8)
	for _, n := range []int{1, 2, 31, 32, 33, 63, 64, 65, 96, 97, 4064, 4065, 4095, 4096} {
		d, places := drafted(n), []int{3}
		for i := range (n + 31) / 32 {
			d.group(make([]byte, i))
			places = append(places, places[i]+i)
		}
		footRight(t, fmt.Sprint(n, " events"), d.write(), n, places...)
	}
	for n := range 200 {
		_, places, _ := foot(t, right(t, mixed(n)))
		if len(places) != (n+31)/32+1 || places[0] != 3 {
			t.Errorf("the places of %d events are %v", n, places)
		}
	}
}

// TestFootShort has all that is short.
func TestFootShort(t *testing.T) {
	none := drafted(0).write()
	for size := range 11 {
		for _, b := range [][]byte{none, none[len(none)-size:], make([]byte, 11), []byte(long(11)), slices.Concat([]byte("PV1"), last(3))} {
			footError(t, fmt.Sprint(size, " bytes"), b[:size], api.ErrShort)
		}
	}
	footError(t, "nil", nil, api.ErrShort)
	footError(t, "eleven zeros", make([]byte, 11), api.ErrText)
	footError(t, "eleven bytes", slices.Concat([]byte("PV1"), make([]byte, 8)), api.ErrSum)
	footError(t, "eleven bytes, far offset", slices.Concat([]byte("PV1"), last(4)), api.ErrRange)
	footError(t, "eleven bytes, no footer", slices.Concat([]byte("PV1"), last(3)), api.ErrShort)
}

// TestFootStart has each other value of each of the first bytes.
func TestFootStart(t *testing.T) {
	for _, good := range [][]byte{drafted(0).write(), two().write()} {
		for i := range 3 {
			for c := 1; c < 256; c++ {
				b := slices.Clone(good)
				b[i] ^= byte(c)
				footError(t, fmt.Sprint("byte ", i, " is ", b[i]), b, api.ErrText)
			}
		}
	}
	for _, text := range []string{"pv1", "PV2", "1VP", "PPV", " PV", "\x80\x86\x49"} {
		d := two()
		d.start = []byte(text)
		footError(t, text, d.write(), api.ErrText)
	}
}

// TestFootEnd has each other value of each of the last bytes.
func TestFootEnd(t *testing.T) {
	for _, good := range [][]byte{drafted(0).write(), two().write()} {
		for i := len(good) - 8; i < len(good); i++ {
			for c := 1; c < 256; c++ {
				b := slices.Clone(good)
				b[i] ^= byte(c)
				footError(t, fmt.Sprint("byte ", i, " is ", b[i]), b, api.ErrSum)
			}
		}
		for size := 1; size <= 8; size++ {
			footError(t, fmt.Sprint("without the last ", size), good[:len(good)-size], api.ErrSum)
			footError(t, fmt.Sprint("with more behind: ", size), append(slices.Clone(good), []byte(long(size))...), api.ErrSum)
		}
	}
	// The checksum is that of the four bytes alone, and least significant first.
	b := drafted(0).write()
	slices.Reverse(b[len(b)-4:])
	footError(t, "a checksum reversed", b, api.ErrSum)
	b = drafted(0).write()
	slices.Reverse(b[len(b)-8 : len(b)-4])
	footError(t, "an offset reversed", b, api.ErrSum)
}

// TestFootOffset has offsets with their right checksums.
func TestFootOffset(t *testing.T) {
	for _, d := range []*draft{drafted(0), two()} {
		good := d.write()
		size := len(good) - 8
		at := len(d.groups) + 3
		for _, n := range []uint32{0, 1, 2, uint32(size + 1), uint32(size + 2), uint32(size + 4), uint32(size + 8), uint32(size + 9), 1 << 16, 1<<16 + 3, 1 << 24, 1<<31 - 1, 1 << 31, 1<<31 + 3, math.MaxUint32 - 7, math.MaxUint32} {
			d.offset = func(int) uint32 { return n }
			footError(t, fmt.Sprint("the offset ", n), d.write(), api.ErrRange)
		}
		// There, no bytes follow.
		d.offset = func(int) uint32 { return uint32(size) }
		footError(t, "the offset of the end", d.write(), api.ErrShort)
		for n := 3; n <= size; n++ {
			d.offset = func(int) uint32 { return uint32(n) }
			if _, _, e := foot(t, d.write()); (e == api.OK) != (n == at) || e == api.ErrRange {
				t.Errorf("the offset %d instead of %d: %d", n, at, e)
			}
		}
	}
	// A footer that begins at 3, with groups that it does not have.
	d := two()
	d.groups = nil
	footError(t, "no room for groups", d.write(), api.ErrRange)
	// Pieces at another place than behind the groups are read as well.
	d = drafted(0)
	d.groups = inPieces([]byte{0})
	d.offset = func(int) uint32 { return 3 }
	footError(t, "pieces ahead of pieces", d.write(), api.ErrMore)
}

// TestFootPlace has offsets of all four bytes.
func TestFootPlace(t *testing.T) {
	for _, n := range []int{1, 252, 253, 254, 255, 256, 257, 65532, 65533, 65534, 65536, 70000, 1<<24 - 4, 1<<24 - 3, 1<<24 + 70000} {
		d := drafted(1)
		d.group(make([]byte, n))
		b := d.write()
		if many, places, e := Foot(b); many != 1 || !slices.Equal(places, []int{3, 3 + n}) || e != api.OK {
			t.Errorf("a group of %d bytes: %d, %v, %d", n, many, places, e)
		}
	}
}

// TestFootPieces has each error of Unpack.
func TestFootPieces(t *testing.T) {
	inside := func(d *draft) []byte { return slices.Concat(d.many, slices.Concat(d.lengths...)) }
	for name, c := range map[string]struct {
		pieces func(foot []byte) []byte
		e      api.Errno
	}{
		"none":               {func([]byte) []byte { return nil }, api.ErrShort},
		"no end":             {func(b []byte) []byte { return piece(b) }, api.ErrShort},
		"half a number":      {func(b []byte) []byte { return append(piece(b), 128) }, api.ErrShort},
		"half an end":        {func(b []byte) []byte { p := inPieces(b); return p[:len(p)-1] }, api.ErrShort},
		"long number":        {func(b []byte) []byte { return append([]byte{128, 0}, inPieces(b)...) }, api.ErrForm},
		"long number behind": {func(b []byte) []byte { return append(piece(b), 128, 0) }, api.ErrForm},
		"endless number":     {func([]byte) []byte { return slices.Repeat([]byte{255}, 30) }, api.ErrForm},
		"great piece":        {func([]byte) []byte { return append(number(257), make([]byte, 300)...) }, api.ErrOver},
		"greatest piece":     {func([]byte) []byte { return append(number(math.MaxUint64), make([]byte, 300)...) }, api.ErrOver},
		"piece of 256":       {func([]byte) []byte { return number(256) }, api.ErrShort},
		"many short pieces":  {func(b []byte) []byte { return slices.Concat(piece(b[:1]), piece(b[1:]), piece(nil)) }, api.ErrOrder},
		"sum":                {func(b []byte) []byte { p := inPieces(b); p[len(b)+1] ^= 1; return p }, api.ErrSum},
		"sum of end":         {func(b []byte) []byte { p := inPieces(b); p[len(p)-1] ^= 128; return p }, api.ErrSum},
		"content":            {func(b []byte) []byte { p := inPieces(b); p[1] ^= 1; return p }, api.ErrSum},
		"short piece":        {func(b []byte) []byte { p := inPieces(b); p[0]--; return p }, api.ErrSum},
		"empty, then more":   {func(b []byte) []byte { return append(piece(nil), inPieces(b)...) }, api.ErrMore},
		"one byte more":      {func(b []byte) []byte { return append(inPieces(b), 0) }, api.ErrMore},
		"twice":              {func(b []byte) []byte { return slices.Repeat(inPieces(b), 2) }, api.ErrMore},
		"empty":              {func([]byte) []byte { return inPieces(nil) }, api.ErrShort},
	} {
		d := two()
		d.pieces = c.pieces
		footError(t, name, d.write(), c.e)
	}
	d := two()
	for n := range 6 {
		d.pieces = func(b []byte) []byte { p := inPieces(b); return p[:len(p)-n] }
		want := api.ErrShort
		if n == 0 {
			want = api.OK
		}
		if _, _, e := foot(t, d.write()); e != want {
			t.Errorf("without the last %d bytes of the footer: %d", n, e)
		}
	}
	for size := 1; size < 30; size++ {
		for _, c := range []byte{0, 1, 255} {
			d := two()
			d.behind = slices.Repeat([]byte{c}, size)
			footError(t, fmt.Sprint(size, " bytes behind"), d.write(), api.ErrMore)
		}
		d.pieces = func(foot []byte) []byte { return append(inPieces(foot), inside(d)[:size%3+1]...) }
		footError(t, "numbers behind", d.write(), api.ErrMore)
	}
}

// TestFootBorrowed has pieces that end too early, but that would be long enough,
// and wrong, with the last eight bytes.
func TestFootBorrowed(t *testing.T) {
	for size := range 40 {
		for name, b := range map[string][]byte{
			"all but the checksum": {4, 0, 0, 0, 0}, "a part of the checksum": {1, 0, 27, 223}, "the number of one byte": {1}, "the number of four bytes": {4}, "half of the bytes": {8, 1, 2, 3, 4}, "the number of none": {0}, "half a number": {128},
		} {
			d := drafted(0)
			d.groups = make([]byte, size)
			d.pieces = func([]byte) []byte { return b }
			footError(t, fmt.Sprint(name, " behind ", size), d.write(), api.ErrShort)
		}
	}
}

// TestFootNumber has each error of Take for the number of events, and the limit.
func TestFootNumber(t *testing.T) {
	for name, c := range map[string]struct {
		b []byte
		e api.Errno
	}{
		"cut":           {[]byte{128}, api.ErrShort},
		"cut far":       {[]byte{255, 255, 255, 255, 255, 255, 255, 255, 255}, api.ErrShort},
		"long zero":     {[]byte{128, 0}, api.ErrForm},
		"long one":      {[]byte{129, 0}, api.ErrForm},
		"endless":       {slices.Repeat([]byte{255}, 10), api.ErrForm},
		"beyond 64":     {append(slices.Repeat([]byte{255}, 9), 2), api.ErrForm},
		"4097":          {number(4097), api.ErrOver},
		"5000":          {number(5000), api.ErrOver},
		"65536":         {number(1 << 16), api.ErrOver},
		"2^32":          {number(1 << 32), api.ErrOver},
		"2^32 and 40":   {number(1<<32 + 40), api.ErrOver},
		"2^63":          {number(1 << 63), api.ErrOver},
		"2^63 and 40":   {number(1<<63 + 40), api.ErrOver},
		"greatest":      {number(math.MaxUint64), api.ErrOver},
		"greatest but1": {number(math.MaxUint64 - 1), api.ErrOver},
		"nothing":       {nil, api.ErrShort},
	} {
		d := drafted(0)
		d.many = c.b
		footError(t, name, d.write(), c.e)
		if c.e == api.ErrShort {
			continue
		}
		d = two()
		d.many = c.b
		footError(t, name+", with lengths", d.write(), c.e)
	}
	for _, lengths := range []int{0, 1, 127, 128, 129, 300} {
		for n, fits := range map[int]int{4096: 128, 4095: 128, 4064: 127, 4097: -1, 4128: -1} {
			d := drafted(n)
			for range lengths {
				d.group([]byte{1, 2, 3})
			}
			want := api.OK
			switch {
			case n > 4096:
				want = api.ErrOver
			case lengths < fits:
				want = api.ErrShort
			case lengths > fits:
				want = api.ErrMore
			}
			if _, places, e := foot(t, d.write()); e != want || e == api.OK && len(places) != fits+1 {
				t.Errorf("%d events and %d lengths: %v, %d", n, lengths, places, e)
			}
		}
	}
}

// TestFootMany has other numbers of events than there are lengths for.
func TestFootMany(t *testing.T) {
	for lengths := range 6 {
		for n := range 200 {
			d := drafted(n)
			for range lengths {
				d.group([]byte{1})
			}
			want := api.OK
			switch groups := (n + 31) / 32; {
			case groups > lengths:
				want = api.ErrShort
			case groups < lengths:
				want = api.ErrMore
			}
			if many, _, e := foot(t, d.write()); e != want || e == api.OK && many != n {
				t.Errorf("%d events and %d lengths: %d, %d", n, lengths, many, e)
			}
		}
	}
}

// TestFootLengths has each error of Take for each length.
func TestFootLengths(t *testing.T) {
	for i := range 5 {
		for name, c := range map[string]struct {
			b []byte
			e api.Errno
		}{
			"long zero":    {[]byte{128, 0}, api.ErrForm},
			"long number":  {[]byte{133, 128, 0}, api.ErrForm},
			"endless":      {slices.Repeat([]byte{128}, 10), api.ErrForm},
			"beyond 64":    {append(slices.Repeat([]byte{255}, 9), 2), api.ErrForm},
			"another":      {[]byte{1}, api.ErrRange},
			"zero":         {[]byte{0}, api.ErrRange},
			"greatest":     {number(math.MaxUint64), api.ErrRange},
			"one too many": {[]byte{5, 5}, api.ErrMore},
		} {
			d := drafted(150)
			for range 5 {
				d.group([]byte{1, 2, 3, 4, 5})
			}
			d.lengths[i] = c.b
			footError(t, fmt.Sprint(name, " at ", i), d.write(), c.e)
		}
		d := drafted(150)
		for range 5 {
			d.group([]byte{1, 2, 3, 4, 5})
		}
		for _, cut := range [][]byte{nil, {128}, {255, 255}, slices.Repeat([]byte{128}, 9)} {
			d.lengths = append(d.lengths[:i:i], cut)
			footError(t, fmt.Sprint("cut at ", i), d.write(), api.ErrShort)
		}
	}
	for _, more := range [][]byte{{0}, {1}, {128}, {128, 0}, {255, 255}, make([]byte, 300), slices.Repeat([]byte{255}, 12)} {
		for _, d := range []*draft{drafted(0), two()} {
			d.more = more
			footError(t, fmt.Sprint("more: ", more), d.write(), api.ErrMore)
		}
	}
}

// TestFootSums has lengths that do not lead to the footer.
func TestFootSums(t *testing.T) {
	const all = math.MaxUint64
	for _, c := range [][]uint64{
		{300, 6}, {300, 8}, {299, 7}, {301, 7}, {0, 0}, {307, 1}, {1, 307}, {308, 0}, {0, 308}, {304, 3, 0}, {310, 0}, {303, 7},
		{all, 308}, {308, all}, {all, all}, {all - 2, 310 - 1}, {all - 300, 608}, {1 << 63, 1<<63 + 307}, {1<<63 + 307, 1 << 63}, {1 << 63, 1 << 63}, {1<<63 - 1, 1<<63 - 1},
		{1 << 32, 307}, {1<<32 + 300, 7}, {300, 1<<32 + 7}, {1<<62 + 300, 7}, {1<<64 - 1, 0}, {0, 1<<64 - 1}, {1<<63 + 307, 0}, {0, 1<<63 + 307}, {all - 6, 314},
	} {
		d := two()
		d.lengths = d.lengths[:0]
		for _, n := range c {
			d.lengths = append(d.lengths, number(n))
		}
		want := api.ErrRange
		if len(c) == 3 {
			want = api.ErrMore
		}
		footError(t, fmt.Sprint(c), d.write(), want)
	}
	// Four lengths of 2^62, and others, are as much as nothing in 64 bits.
	for _, c := range [][]uint64{{1 << 62, 1 << 62, 1 << 62, 1 << 62, 307}, {307, 1 << 63, 1 << 63, 0, 0}, {all, 1, 307, 0, 0}, {all, 1, all, 1, 307}, {1, all, 307, 0, 0}, {150, 157, all, 1, 0}} {
		d := drafted(160)
		d.groups = make([]byte, 307)
		for _, n := range c {
			d.lengths = append(d.lengths, number(n))
		}
		footError(t, fmt.Sprint(c), d.write(), api.ErrRange)
	}
	// Each as much as all ahead of it, as often as 64 bits need, and beyond.
	for steps := 55; steps < 70; steps++ {
		d := drafted(32 * (steps + 1))
		d.groups = make([]byte, 307)
		at := uint64(3)
		for range steps {
			d.lengths = append(d.lengths, number(at))
			at += at
		}
		d.lengths = append(d.lengths, number(310-at))
		footError(t, fmt.Sprint(steps, " times as much"), d.write(), api.ErrRange)
	}
	for _, c := range [][]uint64{{300, all - 302, 310}, {307, all - 309, 310}, {300, all - 301, 309}, {1, 2, all - 5, 310}, {300, all - 299, 307}, {300, 7, all, 1}, {307, all - 306, 307}} {
		d := drafted(32 * len(c))
		d.groups = make([]byte, 307)
		for _, n := range c {
			d.lengths = append(d.lengths, number(n))
		}
		footError(t, fmt.Sprint(c), d.write(), api.ErrRange)
	}
	for _, c := range [][]uint64{{307, 0, 0}, {0, 307, 0}, {0, 0, 307}, {0, 1, 306}, {100, 0, 207}, {1, 1, 305}} {
		d := drafted(96)
		d.groups = make([]byte, 307)
		places := []int{3}
		for i, n := range c {
			d.lengths = append(d.lengths, number(n))
			places = append(places, places[i]+int(n))
		}
		footRight(t, fmt.Sprint(c), d.write(), 96, places...)
	}
	for from := range 308 {
		d := two()
		d.lengths = [][]byte{number(uint64(from)), number(uint64(307 - from))}
		footRight(t, fmt.Sprint("the first of ", from), d.write(), 40, 3, 3+from, 310)
	}
	d := drafted(1)
	d.lengths = [][]byte{{0}}
	footRight(t, "an empty group", d.write(), 1, 3, 3)
	d = drafted(0)
	d.groups = []byte{1}
	footError(t, "a byte that is no group's", d.write(), api.ErrRange)
}

// TestFootSumsWrapped has random lengths whose sum in 64 bits is right.
func TestFootSumsWrapped(t *testing.T) {
	r := rand.New(rand.NewSource(21))
	seen := map[api.Errno]int{}
	for range 5000 {
		var c []uint64
		sum := uint64(0)
		for range r.Intn(6) {
			n := pick(r, r.Uint64()>>r.Intn(64), uint64(r.Intn(308)), uint64(r.Intn(100)), 307-sum, sum, sum+3, sum+310, -sum, -sum-3, -sum-uint64(r.Intn(400)), -sum+uint64(r.Intn(400)))
			c = append(c, n)
			sum += n
		}
		c = append(c, 307-sum)
		d := drafted(32 * len(c))
		d.groups = make([]byte, 307)
		for _, n := range c {
			d.lengths = append(d.lengths, number(n))
		}
		_, _, e := foot(t, d.write())
		seen[e]++
	}
	if seen[api.OK] < 100 || seen[api.ErrRange] < 100 || len(seen) != 2 {
		t.Errorf("the errors are %v", seen)
	}
}

// fault is a change that makes a draft wrong.
type fault struct {
	name   string
	change func(d *draft)
	e      api.Errno
}

// faults has one of each error, in the order in which they are looked for. Those
// of different errors change different parts.
func faults() []fault {
	return []fault{
		{"start", func(d *draft) { d.start = []byte("PV2") }, api.ErrText},
		{"sum", func(d *draft) { d.sum = 1 << 31 }, api.ErrSum},
		{"offset", func(d *draft) { d.offset = func(int) uint32 { return 2 } }, api.ErrRange},
		{"sum of a piece", func(d *draft) {
			d.pieces = func(b []byte) []byte { p := inPieces(b); p[len(p)-1] ^= 1; return p }
		}, api.ErrSum},
		{"behind", func(d *draft) { d.behind = []byte{0} }, api.ErrMore},
		{"number of events", func(d *draft) { d.many = []byte{168, 0} }, api.ErrForm},
		{"too many events", func(d *draft) { d.many = number(4097) }, api.ErrOver},
		{"first length", func(d *draft) { d.lengths[0] = []byte{128, 0} }, api.ErrForm},
		{"second length", func(d *draft) { d.lengths[1] = slices.Repeat([]byte{128}, 10) }, api.ErrForm},
		{"more", func(d *draft) { d.more = []byte{7} }, api.ErrMore},
		{"sum of lengths", func(d *draft) { d.groups = append(d.groups, 0) }, api.ErrRange},
	}
}

// TestFootTwoFaults has two faults at once: the first one counts.
func TestFootTwoFaults(t *testing.T) {
	list := faults()
	for i, first := range list {
		d := two()
		first.change(d)
		footError(t, first.name, d.write(), first.e)
		for _, second := range list[i+1:] {
			d := two()
			second.change(d)
			first.change(d)
			footError(t, first.name+" and "+second.name, d.write(), first.e)
		}
		d = two()
		for _, f := range slices.Backward(list[i:]) {
			f.change(d)
		}
		footError(t, first.name+" and all behind it", d.write(), first.e)
		if b := d.write(); i == 0 {
			footError(t, "short, and all else", b[:10], api.ErrShort)
		}
	}
	// A number of events that is both, and a length that is missing.
	d := two()
	d.lengths = d.lengths[:1]
	d.groups = append(d.groups, 0)
	footError(t, "a length is missing, and the sum is wrong", d.write(), api.ErrShort)
	d.many = number(4097)
	footError(t, "too many events, and a length is missing", d.write(), api.ErrOver)
}
