package host

import (
	"math/big"
	"math/rand"
	"regexp"
	"strconv"
	"strings"
	"testing"
)

func text(c int) string {
	return string([]byte{byte(c)})
}

// words puts together up to so many pieces in every order.
func words(pieces []string, most int) []string {
	all, last := []string{""}, []string{""}
	for range most {
		var longer []string
		for _, before := range last {
			for _, piece := range pieces {
				longer = append(longer, before+piece)
			}
		}
		all, last = append(all, longer...), longer
	}
	return all
}

// hostOf returns a text of parts with these lengths, joined by dots.
func hostOf(lengths ...int) string {
	var list []string
	for _, length := range lengths {
		list = append(list, strings.Repeat("x", length))
	}
	return strings.Join(list, ".")
}

var hostForm = regexp.MustCompile(`\A[a-z0-9]([a-z0-9-]{0,61}[a-z0-9])?(\.[a-z0-9]([a-z0-9-]{0,61}[a-z0-9])?)*\z`)

// plainGood follows the chapter's words by a regular expression.
func plainGood(s string) bool {
	return len(s) >= 1 && len(s) <= 253 && hostForm.MatchString(s)
}

// plainUnder takes every dot of s for the one before top.
func plainUnder(s, top string) bool {
	found := false
	for i := range len(s) {
		found = found || s[i] == 46 && s[i+1:] == top
	}
	return found && plainGood(s) && plainGood(top)
}

var portForm = regexp.MustCompile(`\A[1-9][0-9]*\z`)

// plainPort reads numbers of any size by the library's.
func plainPort(s string) (int, bool) {
	if !portForm.MatchString(s) {
		return 0, false
	}
	n, _ := new(big.Int).SetString(s, 10)
	if n.Cmp(big.NewInt(65535)) > 0 {
		return 0, false
	}
	return int(n.Int64()), true
}

func checkGood(t *testing.T, s string, want bool) {
	t.Helper()
	if got := Good(s); got != want {
		t.Errorf("Good(%q) = %v, want %v", s, got, want)
	}
}

func TestGoodKnown(t *testing.T) {
	for _, s := range []string{
		"a", "z", "0", "9", "example", "a.example", "www.example.com", "a.b.c.d.e.f",
		"a-b", "a--b", "xn--bcher-kva.example", "a-b.c-d", "0-0", "1.2.3.4", "127.0.0.1", "999.999", "3com", "a1", "1a",
		"abcdefghijklmnopqrstuvwxyz0123456789", "abcdefghijklmnopqrstuvwxyz-0123456789.x",
	} {
		checkGood(t, s, true)
	}
	for _, s := range []string{
		"", ".", "..", "...", "-", "--", "-.-", "a.", ".a", "a..b", "a...b", ".a.", "..a", "a..", "a.b.", ".a.b", "a.b..c",
		"-a", "a-", "-a-", "a.-b", "a-.b", "a.b-", "-a.b", "a.-", "-.a", "a.-.b",
		"A", "Example", "a.B", "EXAMPLE.COM", "a_b", "a b", " a", "a ", "\ta", "a\n", "a\r\n", "\x00", "a\x00b", "a,b", "a/b", "a:80", "a@b", "*", "*.a", "[::1]", "::1", "%61", "a%2eb", "a'b", "a+b",
		"\u00E9", "caf\u00E9.example", "\u212A", "\u0430", "\u0661", "a\u3002b", "a\uFF0Eb", "\u2010", "a\xADb", // letters, digits, dots and hyphens that are no ASCII
		"\xFF", "a\xFF", "\xE1", "\xAE", "a.\xC3", // no UTF-8
	} {
		checkGood(t, s, false)
	}
}

func TestGoodOfEveryByte(t *testing.T) {
	for c := range 256 {
		s := text(c)
		solid := c >= 97 && c <= 122 || c >= 48 && c <= 57
		for _, alone := range []string{s, "a." + s, s + ".a", "a." + s + ".a", s + "." + s} {
			checkGood(t, alone, solid)
		}
		for _, first := range []string{s + "a", s + "0.b", "b." + s + "a", "b." + s + "a.b", s + strings.Repeat("a", 62), "b." + s + strings.Repeat("a", 62) + ".b"} {
			checkGood(t, first, solid)
		}
		for _, last := range []string{"a" + s, "0" + s + ".b", "b.a" + s, "b.a" + s + ".b", strings.Repeat("a", 62) + s, "b." + strings.Repeat("a", 62) + s + ".b"} {
			checkGood(t, last, solid)
		}
		inside := solid || c == 45
		for _, within := range []string{"a" + s + "b", "0" + s + "9", "a" + s + "-b", "a-" + s + "b", "x.a" + s + "b", "a" + s + "b.x", "x.a" + s + "b.x", "a" + strings.Repeat(s, 61) + "b"} {
			// A dot begins another part, which is valid unless a - or a dot is beside it.
			dot := c == 46 && !strings.Contains(within, "-") && !strings.Contains(within, "..")
			checkGood(t, within, inside || dot)
		}
	}
}

func TestGoodAtEveryPlace(t *testing.T) {
	for _, length := range []int{1, 2, 3, 10, 62, 63} {
		for place := range length {
			for _, wrong := range []string{"A", "Z", "_", " ", "/", ":", "`", "{", "@", "[", "\x00", "\xFF", "\xE1"} {
				part := strings.Repeat("a", place) + wrong + strings.Repeat("a", length-place-1)
				for _, s := range []string{part, part + ".b", "b." + part, "b." + part + ".b"} {
					checkGood(t, s, false)
				}
			}
			part := strings.Repeat("a", place) + "-" + strings.Repeat("a", length-place-1)
			for _, s := range []string{part, part + ".b", "b." + part, "b." + part + ".b"} {
				checkGood(t, s, place > 0 && place < length-1)
			}
		}
	}
}

func TestGoodLengthOfParts(t *testing.T) {
	for length := range 130 {
		want := length >= 1 && length <= 63
		for _, lengths := range [][]int{{length}, {length, 1}, {1, length}, {1, length, 1}, {63, length}, {length, 63}, {length, 1, 1, 1}, {1, 1, 1, length}} {
			checkGood(t, hostOf(lengths...), want)
		}
	}
	for first := range 66 {
		for second := range 66 {
			checkGood(t, hostOf(first, second), first >= 1 && first <= 63 && second >= 1 && second <= 63)
		}
	}
}

func TestGoodLengthOfAll(t *testing.T) {
	for length := 1; length <= 63; length++ {
		checkGood(t, hostOf(63, 63, 63, length), length <= 61)
		checkGood(t, hostOf(length, 63, 63, 63), length <= 61)
		checkGood(t, hostOf(63, length, 63, 63), length <= 61)
	}
	for many := 1; many <= 400; many++ {
		checkGood(t, strings.Repeat("a.", many-1)+"a", many <= 127) // 127 parts have 253 bytes
		checkGood(t, strings.Repeat("a.", many-1)+"bc", many <= 126)
		checkGood(t, strings.Repeat("a.", many), false)
		checkGood(t, strings.Repeat(".", many), false)
		checkGood(t, strings.Repeat("a", many), many <= 63)
	}
	checkGood(t, hostOf(63, 63, 63, 61), true)  // 253 bytes
	checkGood(t, hostOf(63, 63, 63, 62), false) // 254 bytes
	checkGood(t, hostOf(63, 63, 63, 59, 1), true)
	checkGood(t, hostOf(63, 63, 63, 60, 1), false)
	checkGood(t, hostOf(63, 63, 63, 61)+".", false)
	checkGood(t, hostOf(63, 63, 63, 60)+".", false) // 253 bytes, with a dot at the end
	checkGood(t, "."+hostOf(63, 63, 63, 60), false)
	for _, length := range []int{255, 256, 257, 509, 65789, 1 << 20} { // lengths that would fit if counted in one or two bytes
		checkGood(t, strings.Repeat("a.", length/2)+strings.Repeat("a", length%2), false)
		checkGood(t, "b"+strings.Repeat(".a", length/2), false)
		checkGood(t, strings.Repeat("a", length), false)
	}
}

func TestGoodEveryShortText(t *testing.T) {
	for _, s := range words([]string{"a", "0", "-", ".", "A"}, 7) {
		checkGood(t, s, plainGood(s))
	}
	for _, s := range words([]string{strings.Repeat("x", 62), "9", "-", ".", "\xFF"}, 5) {
		checkGood(t, s, plainGood(s))
	}
}

// randomHost is mostly valid: bytes of hosts, with parts up to about the limit.
func randomHost(r *rand.Rand) string {
	var b []byte
	for range r.Intn(7) {
		for range r.Intn(68) {
			b = append(b, "abcxyz0189-"[r.Intn(10+r.Intn(2))])
		}
		b = append(b, '.')
	}
	if len(b) > 0 && r.Intn(8) > 0 {
		b = b[:len(b)-1]
	}
	if len(b) > 0 && r.Intn(8) == 0 {
		b[r.Intn(len(b))] = byte(r.Intn(256))
	}
	return string(b)
}

func TestGoodOfRandomTexts(t *testing.T) {
	r := rand.New(rand.NewSource(5))
	valid := 0
	for range 30000 {
		s := randomHost(r)
		checkGood(t, s, plainGood(s))
		if plainGood(s) {
			valid++
		}
	}
	if valid < 1000 || valid > 29000 {
		t.Errorf("%d of the texts are valid, so one kind is hardly tested", valid)
	}
}

func checkUnder(t *testing.T, s, top string, want bool) {
	t.Helper()
	if got := Under(s, top); got != want {
		t.Errorf("Under(%q, %q) = %v, want %v", s, top, got, want)
	}
}

func TestUnderKnown(t *testing.T) {
	long := hostOf(63, 63, 63)
	cases := []struct {
		s, top string
		want   bool
	}{
		{"a.example", "example", true}, {"badexample", "example", false}, // of the chapter
		{"a.b", "b", true}, {"x.a.b", "b", true}, {"x.a.b", "a.b", true}, {"www.example.com", "example.com", true}, {"www.example.com", "com", true},
		{"b.b", "b", true}, {"b.b.b", "b.b", true}, {"a-b.c-d", "c-d", true}, {"1.2.3.4", "3.4", true}, {"0.0", "0", true},
		{"example", "example", false}, {"a.example", "a.example", false}, // equal
		{"xa.b", "a.b", false}, {"x-a.b", "a.b", false}, {"bb", "b", false}, {"a.bb", "b", false}, {"x.ba.b", "a.b", false}, // no dot before top
		{"b.a", "b", false}, {"a.b.c", "b", false}, {"a.b", "a", false}, {"example.evil", "example", false}, {"a.example.com", "a.example", false}, // not at the end
		{"b", "a.b", false}, {"example", "a.example", false}, {"a", "b", false}, {"a.b", "c", false}, {"a.b", "x.b", false}, {"a", "aaaaaaaa", false},
		{"", "", false}, {"a", "", false}, {"", "a", false}, {"a.", "", false}, {".", "", false}, {"..", ".", false}, // an empty one
		{".example", "example", false}, {"a..example", "example", false}, {"-a.example", "example", false}, {"a-.example", "example", false}, {"A.example", "example", false}, {"a_.example", "example", false}, {"*.example", "example", false}, {"\xFF.example", "example", false}, {"a .example", "example", false}, // an invalid s
		{"a.example.", "example.", false}, {"a..example", ".example", false}, {"a.-example", "-example", false}, {"a.example-", "example-", false}, {"a.EXAMPLE", "EXAMPLE", false}, {"a.b_c", "b_c", false}, {"a.\xFF", "\xFF", false}, // both invalid
		{"a.example", ".example", false}, {"a.example", "Example", false}, {"a.example", "EXAMPLE", false}, {"a.example", "example.", false}, {"a.example", "*.example", false}, {"a.example", "a..example", false}, // an invalid top
		{"a.Example", "example", false}, {"A.example", "a.example", false},
		{"a." + long, long, true}, {"a." + strings.Repeat("x", 63), strings.Repeat("x", 63), true}, {"a." + strings.Repeat("x", 64), strings.Repeat("x", 64), false},
		{hostOf(61, 63, 63, 63), hostOf(63, 63, 63), true}, {hostOf(62, 63, 63, 63), hostOf(63, 63, 63), false}, {hostOf(1, 59, 63, 63, 63), hostOf(59, 63, 63, 63), true}, {hostOf(1, 60, 63, 63, 63), hostOf(60, 63, 63, 63), false}, {hostOf(1, 61, 63, 63, 63), hostOf(61, 63, 63, 63), false},
		{hostOf(64, 1), "x", false}, {hostOf(63, 1), "x", true},
	}
	for _, c := range cases {
		checkUnder(t, c.s, c.top, c.want)
	}
}

func TestUnderEveryShortText(t *testing.T) {
	list := words([]string{"a", "b", ".", "-", "A"}, 4)
	for _, s := range list {
		for _, top := range list {
			checkUnder(t, s, top, plainUnder(s, top))
		}
	}
	for _, s := range words([]string{"a", "b", "."}, 8) {
		for _, top := range words([]string{"a", "b", "."}, 3) {
			checkUnder(t, s, top, plainUnder(s, top))
			checkUnder(t, "a."+s, s, plainGood(s))
			checkUnder(t, s, s, false)
		}
	}
}

func TestUnderOfEveryByte(t *testing.T) {
	for c := range 256 {
		s := text(c)
		solid := c >= 97 && c <= 122 || c >= 48 && c <= 57
		checkUnder(t, s+".example", "example", solid)
		checkUnder(t, "a"+s+"b.example", "example", solid || c == 45 || c == 46)
		checkUnder(t, "a."+s, s, solid)
		checkUnder(t, "a.b"+s+"c", "b"+s+"c", solid || c == 45 || c == 46)
		checkUnder(t, "a.example", "example"+s, false)
		checkUnder(t, "a"+s+"example", "example", c == 46) // what is before top
	}
}

func TestUnderEveryDot(t *testing.T) {
	r := rand.New(rand.NewSource(6))
	found := 0
	for range 3000 {
		s := randomHost(r)
		for i := range len(s) + 1 {
			checkUnder(t, s, s[i:], plainUnder(s, s[i:]))
			if Under(s, s[i:]) {
				found++
			}
		}
		checkUnder(t, s, randomHost(r), false)
	}
	if found < 1000 {
		t.Errorf("only %d hosts are under others", found)
	}
}

func checkDefault(t *testing.T, scheme string, want int) {
	t.Helper()
	if got := Default(scheme); got != want {
		t.Errorf("Default(%q) = %d, want %d", scheme, got, want)
	}
}

func TestDefault(t *testing.T) {
	checkDefault(t, "http", 80)
	checkDefault(t, "https", 443)
	for _, scheme := range []string{
		"", "HTTP", "HTTPS", "Http", "hTTPS", "httpS", "httP",
		"h", "ht", "htt", "ttp", "httpss", "httpx", "xhttp", "http ", " http", "http:", "https:", "http://", "https://", "http\x00", "\thttps", "http\n", "https\n", "http,https", "httphttps",
		"ftp", "ws", "wss", "file", "data", "blob", "about", "80", "443", "\u0127ttp", "http\u017F", "\xFF",
	} {
		checkDefault(t, scheme, 0)
	}
}

func TestDefaultOfOtherLetters(t *testing.T) {
	for scheme, port := range map[string]int{"http": 80, "https": 443} {
		for chosen := range 1 << len(scheme) {
			b := []byte(scheme)
			for i := range b {
				if chosen>>i&1 == 1 {
					b[i] -= 32
				}
			}
			want := 0
			if chosen == 0 {
				want = port
			}
			checkDefault(t, string(b), want)
		}
	}
}

func TestDefaultOfEveryByte(t *testing.T) {
	for c := range 256 {
		s := text(c)
		checkDefault(t, s, 0)
		checkDefault(t, s+"http", 0)
		checkDefault(t, "https"+s, 0)
		want := 0
		if c == 's' {
			want = 443
		}
		checkDefault(t, "http"+s, want)
		for place := range len("http") {
			other := "http"[:place] + s + "http"[place+1:]
			if other != "http" {
				checkDefault(t, other, 0)
				checkDefault(t, other+"s", 0)
			}
		}
	}
}

func checkPort(t *testing.T, s string, want int) {
	t.Helper()
	if n, ok := Port(s); n != want || !ok {
		t.Errorf("Port(%.80q) = %d, %v, want %d, true", s, n, ok, want)
	}
}

func checkNoPort(t *testing.T, s string) {
	t.Helper()
	if n, ok := Port(s); n != 0 || ok {
		t.Errorf("Port(%.80q) = %d, %v, want 0, false", s, n, ok)
	}
}

func TestPortEveryValue(t *testing.T) {
	for value := range 140000 {
		s := strconv.Itoa(value)
		if value >= 1 && value <= 65535 {
			checkPort(t, s, value)
		} else {
			checkNoPort(t, s)
		}
		for _, zeros := range []string{"0", "00", "0000000000000000000000000"} {
			checkNoPort(t, zeros+s)
		}
	}
}

func TestPortKnown(t *testing.T) {
	for s, want := range map[string]int{"1": 1, "9": 9, "10": 10, "80": 80, "99": 99, "100": 100, "443": 443, "8080": 8080, "10000": 10000, "65534": 65534, "65535": 65535} {
		checkPort(t, s, want)
	}
	for _, s := range []string{
		"", "0", "00", "01", "080", "065535", "00000", "65536", "65537", "65540", "65600", "66000", "70000", "99999", "100000", "655350", "655351",
		"-1", "+1", "-0", "+0", "-", "+", "--1", "1-", "1+", "-80", "+80", "-65456", // 80 if it wrapped around
		" ", " 80", "80 ", "8 0", "\t80", "80\n", "80\x00", "8_0", "8.0", "80.", ".80", "8,0", "8e1", "1e2", "0x50", "0b1", "0o7", "x", "a", "ff", ":80", "80:", "80/",
		"\u0661", "\uFF18\uFF10", "8\u0660", "\xB8", "8\xFF", "\u00B2",
	} {
		checkNoPort(t, s)
	}
}

func TestPortOfEveryByte(t *testing.T) {
	for c := range 256 {
		s := text(c)
		if c >= 49 && c <= 57 {
			checkPort(t, s, c-48)
			checkPort(t, s+"1", 10*(c-48)+1)
		}
		if c >= 48 && c <= 57 {
			checkPort(t, "1"+s, 10+c-48)
			checkPort(t, "1"+s+"1", 101+10*(c-48))
			continue
		}
		for length := range 24 {
			for place := range length + 1 {
				checkNoPort(t, strings.Repeat("1", place)+s+strings.Repeat("1", length-place))
			}
		}
		for _, zeros := range []string{"0", "00", strings.Repeat("0", 60)} {
			checkNoPort(t, s+zeros)
			checkNoPort(t, zeros+s)
			checkNoPort(t, zeros+s+"1")
		}
	}
}

func TestPortOfManyDigits(t *testing.T) {
	for _, length := range []int{5, 6, 9, 10, 11, 18, 19, 20, 21, 39, 40, 100, 1000, 20000, 1 << 20} {
		for digit := range 10 {
			s := strings.Repeat(strconv.Itoa(digit), length)
			if want, ok := plainPort(s[:min(length, 6)]); ok {
				checkPort(t, s, want)
				continue
			}
			checkNoPort(t, s)
			checkNoPort(t, s+"x")
			checkNoPort(t, "-"+s)
		}
		checkNoPort(t, "1"+strings.Repeat("0", length))
		checkNoPort(t, strings.Repeat("0", length)+"80")
	}
}

// TestPortWrapped holds the numbers that would be ports in fewer bits.
func TestPortWrapped(t *testing.T) {
	for _, bits := range []uint{16, 17, 31, 32, 33, 63, 64, 65, 127, 128, 256} {
		for _, factor := range []int64{1, 2, 3, 10} {
			for away := int64(-3); away <= 90; away++ {
				n := new(big.Int).Lsh(big.NewInt(factor), bits)
				n.Add(n, big.NewInt(away))
				if want, ok := plainPort(n.String()); ok {
					checkPort(t, n.String(), want)
				} else {
					checkNoPort(t, n.String())
				}
			}
		}
	}
}

func TestPortEveryShortText(t *testing.T) {
	for _, s := range words([]string{"0", "5", "6", "3", "-", "a"}, 6) {
		if want, ok := plainPort(s); ok {
			checkPort(t, s, want)
		} else {
			checkNoPort(t, s)
		}
	}
}

func TestPartsOfAHost(t *testing.T) {
	for s, want := range map[string][]string{"": {""}, ".": {"", ""}, "a": {"a"}, "a.b": {"a", "b"}, ".a..b.": {"", "a", "", "b", ""}} {
		seq := parts(s)
		for range 2 {
			var got []string
			for part := range seq {
				got = append(got, part)
			}
			if strings.Join(got, "|") != strings.Join(want, "|") || len(got) != len(want) {
				t.Errorf("the parts of %q are %q, want %q", s, got, want)
			}
		}
		for part := range seq {
			if part != want[0] {
				t.Errorf("the first part of %q is %q, want %q", s, part, want[0])
			}
			break
		}
	}
}

func TestNothingIsKept(t *testing.T) {
	for range 3 {
		checkGood(t, "a.b", true)
		checkGood(t, "a..b", false)
		checkUnder(t, "a.example", "example", true)
		checkUnder(t, "badexample", "example", false)
		checkDefault(t, "https", 443)
		checkDefault(t, "ws", 0)
		checkPort(t, "8080", 8080)
		checkNoPort(t, "08080")
	}
}

func FuzzHost(f *testing.F) {
	f.Add("a.example", "example")
	f.Add("badexample", "example")
	f.Add("65535", "65536")
	f.Add("-a..b-", "https")
	f.Fuzz(func(t *testing.T, s, top string) {
		checkGood(t, s, plainGood(s))
		checkUnder(t, s, top, plainUnder(s, top))
		checkUnder(t, s+"."+top, top, plainGood(s+"."+top) && plainGood(top))
		if want, ok := plainPort(s); ok {
			checkPort(t, s, want)
		} else {
			checkNoPort(t, s)
		}
		if s != "http" && s != "https" {
			checkDefault(t, s, 0)
		}
	})
}
