package ascii

import (
	"math"
	"math/big"
	"math/rand"
	"slices"
	"strconv"
	"strings"
	"testing"
)

// noise holds bytes of all values, among which no one stands out.
func noise(length int) string {
	b := make([]byte, length)
	rand.New(rand.NewSource(int64(length))).Read(b)
	return string(b)
}

func allBytes() string {
	b := make([]byte, 256)
	for c := range b {
		b[c] = byte(c)
	}
	return string(b)
}

func text(c int) string {
	return string([]byte{byte(c)})
}

// words puts together up to so many pieces in every order.
func words(pieces []string, most int) []string {
	all, last := []string{""}, []string{""}
	for range most {
		var longer []string
		for _, before := range last {
			for _, piece := range pieces {
				longer = append(longer, before+piece)
			}
		}
		all, last = append(all, longer...), longer
	}
	return all
}

// isTokenByte holds the numbers that the chapter lists.
func isTokenByte(c int) bool {
	marks := []int{33, 35, 36, 37, 38, 39, 42, 43, 45, 46, 94, 95, 96, 124, 126}
	return c >= 97 && c <= 122 || c >= 65 && c <= 90 || c >= 48 && c <= 57 || slices.Contains(marks, c)
}

func checkCase(t *testing.T, s, low, up string) {
	t.Helper()
	if got := Lower(s); got != low {
		t.Errorf("Lower(%q) = %q, want %q", s, got, low)
	}
	if got := Upper(s); got != up {
		t.Errorf("Upper(%q) = %q, want %q", s, got, up)
	}
}

func TestCaseOfEveryByte(t *testing.T) {
	for c := range 256 {
		low, up := c, c
		if c >= 65 && c <= 90 {
			low = c + 32
		}
		if c >= 97 && c <= 122 {
			up = c - 32
		}
		checkCase(t, text(c), text(low), text(up))
		checkCase(t, "aZ"+text(c), "az"+text(low), "AZ"+text(up))
		checkCase(t, text(c)+"Az\xFF", text(low)+"az\xFF", text(up)+"AZ\xFF")
		checkCase(t, "\x00M"+text(c)+"m~", "\x00m"+text(low)+"m~", "\x00M"+text(up)+"M~")
		checkCase(t, strings.Repeat(text(c), 700), strings.Repeat(text(low), 700), strings.Repeat(text(up), 700))
	}
}

func TestCaseKnown(t *testing.T) {
	cases := []struct{ s, low, up string }{
		{"", "", ""},
		{"Content-Type", "content-type", "CONTENT-TYPE"},
		{"abcdefghijklmnopqrstuvwxyz", "abcdefghijklmnopqrstuvwxyz", "ABCDEFGHIJKLMNOPQRSTUVWXYZ"},
		{"ABCDEFGHIJKLMNOPQRSTUVWXYZ", "abcdefghijklmnopqrstuvwxyz", "ABCDEFGHIJKLMNOPQRSTUVWXYZ"},
		{"@AZ[`az{", "@az[`az{", "@AZ[`AZ{"},
		{" x\ty\r\n", " x\ty\r\n", " X\tY\r\n"},
		{"\u00C9\u00E9", "\u00C9\u00E9", "\u00C9\u00E9"},                                     // letters with accents
		{"\u212A\u017F\u0130\u0131", "\u212A\u017F\u0130\u0131", "\u212A\u017F\u0130\u0131"}, // other cases of k, s and i
		{"\u00DFb", "\u00DFb", "\u00DFB"},
		{"\xC1\xDA\xE1\xFA", "\xC1\xDA\xE1\xFA", "\xC1\xDA\xE1\xFA"}, // letters with the highest bit set
		{"\xFFq\xC3", "\xFFq\xC3", "\xFFQ\xC3"},                      // no UTF-8
	}
	for _, c := range cases {
		checkCase(t, c.s, c.low, c.up)
	}
}

func TestCaseOfLongText(t *testing.T) {
	for _, length := range []int{1, 31, 32, 33, 255, 256, 5000} {
		s := noise(length)
		low, up := Lower(s), Upper(s)
		if len(low) != length || len(up) != length {
			t.Fatalf("%d bytes have %d in lower and %d in upper case", length, len(low), len(up))
		}
		for i := range length {
			if low[i:i+1] != Lower(s[i:i+1]) || up[i:i+1] != Upper(s[i:i+1]) {
				t.Fatalf("byte %d of %d: %q became %q and %q", i, length, s[i:i+1], low[i:i+1], up[i:i+1])
			}
		}
		if Lower(up) != low || Upper(low) != up || Lower(low) != low || Upper(up) != up {
			t.Fatalf("%d bytes differ after another change of case", length)
		}
	}
}

func TestTokenOfEveryByte(t *testing.T) {
	for c := range 256 {
		want := isTokenByte(c)
		for _, s := range []string{text(c), text(c) + "a", "a" + text(c), "a" + text(c) + "a", "!~09azAZ" + text(c) + "|^_`", strings.Repeat("x", 600) + text(c), text(c) + strings.Repeat("x", 600), strings.Repeat(text(c), 600)} {
			if got := Token(s); got != want {
				t.Errorf("Token(%q) = %v, want %v", s, got, want)
			}
		}
	}
}

func TestTokenOfEveryPair(t *testing.T) {
	for c := range 256 {
		for d := range 256 {
			want := isTokenByte(c) && isTokenByte(d)
			if got := Token(text(c) + text(d)); got != want {
				t.Errorf("Token of %d and %d is %v, want %v", c, d, got, want)
			}
		}
	}
}

func TestTokenKnown(t *testing.T) {
	for _, s := range []string{"a", "0", "GET", "X-Custom_1", "!#$%&'*+-.^_`|~", "abcdefghijklmnopqrstuvwxyzABCDEFGHIJKLMNOPQRSTUVWXYZ0123456789"} {
		if !Token(s) {
			t.Errorf("Token(%q) is false", s)
		}
	}
	for _, s := range []string{"", " ", "\t", "\x00", " a", "a ", "a b", "a,b", "a/b", "a:b", "a\n", "(a)", "\"a\"", "caf\u00E9", "\u212A", "a\xFF", allBytes()} {
		if Token(s) {
			t.Errorf("Token(%q) is true", s)
		}
	}
}

func checkTrim(t *testing.T, s, want string) {
	t.Helper()
	if got := Trim(s); got != want {
		t.Errorf("Trim(%q) = %q, want %q", s, got, want)
	}
}

func TestTrimKnown(t *testing.T) {
	for s, want := range map[string]string{
		"":                         "",
		" ":                        "",
		"\t":                       "",
		" \t\t  ":                  "",
		"a":                        "a",
		" a":                       "a",
		"\ta":                      "a",
		"a ":                       "a",
		"a\t":                      "a",
		" \t a b\tc \t ":           "a b\tc",
		"a \t b":                   "a \t b",
		",":                        ",",
		" , ":                      ",",
		"\na\n":                    "\na\n",
		" \r\n a \r\n ":            "\r\n a \r\n",
		"\v\f":                     "\v\f",
		" \x00 ":                   "\x00",
		" \x85 ":                   "\x85",
		" \xA0 ":                   "\xA0",
		"\t\u00A0 a\u2003\t":       "\u00A0 a\u2003", // spaces that are no ASCII
		"\uFEFF \u3000":            "\uFEFF \u3000",
		" \xFF\t\xFF ":             "\xFF\t\xFF",
		strings.Repeat(" \t", 500): "",
	} {
		checkTrim(t, s, want)
	}
}

func TestTrimEveryByte(t *testing.T) {
	for c := range 256 {
		if c == 9 || c == 32 {
			checkTrim(t, text(c), "")
			checkTrim(t, text(c)+"a"+text(c), "a")
			checkTrim(t, "a"+text(c)+"b", "a"+text(c)+"b")
			continue
		}
		checkTrim(t, text(c), text(c))
		checkTrim(t, text(c)+" \ta\t "+text(c), text(c)+" \ta\t "+text(c))
		checkTrim(t, " \t"+text(c)+"\t ", text(c))
	}
}

func TestTrimBothEnds(t *testing.T) {
	blanks := words([]string{" ", "\t"}, 4)
	for _, inside := range []string{"", "a", "a b", "a\tb", "\n", "a \t \xFF", ", ,"} {
		for _, before := range blanks {
			for _, after := range blanks {
				checkTrim(t, before+inside+after, inside)
			}
		}
	}
}

func checkList(t *testing.T, s string, want []string) {
	t.Helper()
	if got := List(s); !slices.Equal(got, want) {
		t.Errorf("List(%q) = %q, want %q", s, got, want)
	}
}

func TestListKnown(t *testing.T) {
	for s, want := range map[string][]string{
		"":                     nil,
		" ":                    nil,
		"\t \t":                nil,
		",":                    nil,
		",,,,":                 nil,
		" ,\t, \t ,":           nil,
		"a":                    {"a"},
		" a ":                  {"a"},
		"a b\tc":               {"a b\tc"},
		"a, ,b":                {"a", "b"},
		"a,b,c":                {"a", "b", "c"},
		"c,b,a":                {"c", "b", "a"},
		"b,a,b,b":              {"b", "a", "b", "b"},
		",a":                   {"a"},
		"a,":                   {"a"},
		" \t,a b ,,\tC\t, ":    {"a b", "C"},
		"a;b , \"c,d\"":        {"a;b", "\"c", "d\""},
		"\n,\r,\x00":           {"\n", "\r", "\x00"},
		"\u00A0,\u3001,\uFF0C": {"\u00A0", "\u3001", "\uFF0C"}, // commas that are no ASCII
		"\xFF , \xAC":          {"\xFF", "\xAC"},
	} {
		checkList(t, s, want)
	}
}

func TestListEveryByte(t *testing.T) {
	for c := range 256 {
		s := text(c)
		switch c {
		case ',':
			checkList(t, s, nil)
			checkList(t, "a"+s+"b", []string{"a", "b"})
		case ' ', '\t':
			checkList(t, s, nil)
			checkList(t, "a"+s+"b,"+s+","+s+"c"+s, []string{"a" + s + "b", "c"})
		default:
			checkList(t, s, []string{s})
			checkList(t, "a"+s+"b, "+s+" ,,"+s, []string{"a" + s + "b", s, s})
		}
	}
}

// plainList reads byte by byte: a comma ends a part, and blanks count only
// between two other bytes of it.
func plainList(s string) []string {
	var out []string
	part, blanks := "", ""
	for i := range len(s) + 1 {
		switch {
		case i == len(s) || s[i] == 44:
			if part != "" {
				out = append(out, part)
			}
			part, blanks = "", ""
		case s[i] == 32 || s[i] == 9:
			blanks += s[i : i+1]
		case part == "":
			part, blanks = s[i:i+1], ""
		default:
			part, blanks = part+blanks+s[i:i+1], ""
		}
	}
	return out
}

func TestListEveryShortText(t *testing.T) {
	for _, s := range words([]string{",", " ", "\t", "a", "b\xFF"}, 6) {
		checkList(t, s, plainList(s))
	}
}

func TestListOfManyParts(t *testing.T) {
	var parts, want []string
	for i := range 3000 {
		word := strconv.Itoa(i * 7919 % 3000)
		parts = append(parts, "\t"+word+" ", " ")
		want = append(want, word)
	}
	checkList(t, strings.Join(parts, ","), want)
	checkList(t, strings.Repeat(",", 5000), nil)
	checkList(t, noise(5000), plainList(noise(5000)))
}

func TestListSharesNothing(t *testing.T) {
	for _, s := range []string{"a", "a,b,c", " a ,, b,c , d,e"} {
		first, second := List(s), List(s)
		want := plainList(s)
		spare := first[:cap(first)]
		for i := range spare {
			spare[i] = "changed"
		}
		if !slices.Equal(second, want) || !slices.Equal(List(s), want) {
			t.Errorf("List(%q): a changed result changed another one", s)
		}
	}
}

func checkNumber(t *testing.T, s string, most, want int) {
	t.Helper()
	if n, ok := Number(s, most); n != want || !ok {
		t.Errorf("Number(%q, %d) = %d, %v, want %d, true", s, most, n, ok, want)
	}
}

func checkNoNumber(t *testing.T, s string, most int) {
	t.Helper()
	if n, ok := Number(s, most); n != 0 || ok {
		t.Errorf("Number(%q, %d) = %d, %v, want 0, false", s, most, n, ok)
	}
}

// plainNumber follows the words of P4.3 with the library's numbers of any size.
func plainNumber(s string, most int) (int, bool) {
	if s == "" || strings.Trim(s, "0123456789") != "" {
		return 0, false
	}
	n, _ := new(big.Int).SetString(s, 10)
	if n.Cmp(big.NewInt(int64(most))) > 0 {
		return most, true
	}
	return int(n.Int64()), true
}

// mosts holds limits of all sizes, with those where a digit more would not fit.
func mosts() []int {
	out := []int{60, 256, 599, 86400, math.MaxInt32, math.MaxInt / 100, math.MaxInt / 10, math.MaxInt/10 + 1, math.MaxInt - 10, math.MaxInt - 9, math.MaxInt - 8, math.MaxInt - 7, math.MaxInt - 1, math.MaxInt}
	for most := range 25 {
		out = append(out, most)
	}
	for power := 100; power <= math.MaxInt/10; power *= 10 {
		out = append(out, power-1, power, power+1, 9*power)
	}
	return out
}

func TestNumberKnown(t *testing.T) {
	greatest := strconv.Itoa(math.MaxInt)
	cases := []struct {
		s          string
		most, want int
	}{
		{"0", 0, 0}, {"000", 0, 0}, {"1", 0, 0}, {"9", 0, 0}, {"10", 0, 0}, {"900", 0, 0},
		{"0", 1, 0}, {"1", 1, 1}, {"2", 1, 1}, {"10", 1, 1}, {"01", 1, 1},
		{"0", 9, 0}, {"8", 9, 8}, {"9", 9, 9}, {"10", 9, 9}, {"19", 9, 9}, {"90", 9, 9},
		{"0070", 60, 60}, {"0060", 60, 60}, {"0059", 60, 59}, {"61", 60, 60}, {"100", 60, 60}, {"6", 60, 6}, {"600", 60, 60},
		{"86399", 86400, 86399}, {"86400", 86400, 86400}, {"86401", 86400, 86400}, {"0000000000000000000000000086399", 86400, 86399},
		{"65535", 65535, 65535}, {"65536", 65535, 65535}, {"65540", 65535, 65535},
		{greatest, math.MaxInt, math.MaxInt}, {"000" + greatest, math.MaxInt, math.MaxInt}, {greatest + "0", math.MaxInt, math.MaxInt},
		{strconv.Itoa(math.MaxInt - 1), math.MaxInt, math.MaxInt - 1}, {greatest, math.MaxInt - 1, math.MaxInt - 1}, {greatest, 7, 7},
		{"18446744073709551616", 5, 5}, {"18446744073709551617", math.MaxInt, math.MaxInt}, // 0 and 1 if they wrapped around
		{"18446744073709551615", math.MaxInt, math.MaxInt}, {"18446744073709551620", 86400, 86400}, {"4294967296", 86400, 86400},
	}
	for _, c := range cases {
		checkNumber(t, c.s, c.most, c.want)
	}
}

func TestNumberAroundMost(t *testing.T) {
	for _, most := range mosts() {
		for away := -12; away <= 12; away++ {
			value := new(big.Int).Add(big.NewInt(int64(most)), big.NewInt(int64(away)))
			if value.Sign() < 0 {
				continue
			}
			for _, zeros := range []string{"", "0", "0000000000000000000000000"} {
				checkNumber(t, zeros+value.String(), most, most+min(away, 0))
			}
		}
	}
}

func TestNumberEveryValue(t *testing.T) {
	for value := range 1300 {
		for _, most := range []int{0, 1, 9, 10, 11, 99, 100, 101, 255, 999, 1000, 1001, 1300, math.MaxInt} {
			for _, s := range []string{strconv.Itoa(value), "0" + strconv.Itoa(value), "0000" + strconv.Itoa(value)} {
				checkNumber(t, s, most, min(value, most))
			}
		}
	}
}

func TestNumberOfManyDigits(t *testing.T) {
	for _, length := range []int{18, 19, 20, 21, 22, 30, 39, 40, 100, 1000, 20000} {
		for digit := range 10 {
			s := strings.Repeat(strconv.Itoa(digit), length)
			for _, most := range mosts() {
				want, _ := plainNumber(s, most)
				checkNumber(t, s, most, want)
			}
		}
	}
	for _, most := range mosts() {
		checkNumber(t, strings.Repeat("0", 20000), most, 0)
		checkNumber(t, strings.Repeat("0", 20000)+"7", most, min(7, most))
		checkNumber(t, "1"+strings.Repeat("0", 20000), most, most)
		checkNumber(t, strings.Repeat("18446744073709551616", 50), most, most)
	}
}

func TestNumberOfEveryByte(t *testing.T) {
	long := strings.Repeat("9", 60)
	zeros := strings.Repeat("0", 60)
	for c := range 256 {
		s := text(c)
		if c >= 48 && c <= 57 {
			checkNumber(t, s, 9, c-48)
			checkNumber(t, s, 5, min(c-48, 5))
			checkNumber(t, "1"+s+"0", 500, 100+10*(c-48))
			continue
		}
		for _, most := range []int{0, 1, 9, 86400, math.MaxInt} {
			for _, wrong := range []string{s, s + "1", "1" + s, "1" + s + "1", s + long, long + s, long + s + long, s + zeros, zeros + s, zeros + s + "5"} {
				checkNoNumber(t, wrong, most)
			}
		}
	}
}

func TestNumberAtEveryPlace(t *testing.T) {
	for _, wrong := range []string{"-", "+", ".", "_", " ", "\t", "/", ":", "x", "e", "\x00", "\xB1", "\xFF", "\u0661"} {
		for length := range 45 {
			for place := range length + 1 {
				s := strings.Repeat("7", place) + wrong + strings.Repeat("7", length-place)
				checkNoNumber(t, s, 60)
				checkNoNumber(t, s, math.MaxInt)
			}
		}
	}
}

func TestNoNumber(t *testing.T) {
	for _, most := range mosts() {
		for _, s := range []string{"", " ", "-", "+", "-1", "+1", "-0", "1.0", "1e3", "0x10", "1_000", " 1", "1 ", "1,2", "\t5", "5\n", "\uFF11", "\u0661", "1\xFF"} {
			checkNoNumber(t, s, most)
		}
	}
}

func TestNumberEveryShortText(t *testing.T) {
	for _, s := range words([]string{"0", "1", "5", "9", "-", "a"}, 5) {
		for _, most := range []int{0, 1, 4, 5, 9, 50, 55, 500, 99999, math.MaxInt} {
			want, ok := plainNumber(s, most)
			if ok {
				checkNumber(t, s, most, want)
			} else {
				checkNoNumber(t, s, most)
			}
		}
	}
}

// TestNumberBelowZero is about calls for which only an end is specified.
func TestNumberBelowZero(t *testing.T) {
	for _, most := range []int{-1, -9, -10, math.MinInt + 1, math.MinInt} {
		for _, s := range []string{"", "0", "5", "999", strings.Repeat("9", 60), "x"} {
			Number(s, most)
		}
	}
}

func TestNothingIsKept(t *testing.T) {
	for range 3 {
		checkCase(t, "aB", "ab", "AB")
		checkTrim(t, " a ", "a")
		checkList(t, "a, ,b", []string{"a", "b"})
		checkNumber(t, "0070", 60, 60)
		checkNoNumber(t, "7x", 60)
		checkNumber(t, "0070", 80, 70)
		if !Token("a") || Token("") || Token("a b") {
			t.Error("Token differs after other calls")
		}
	}
}

func FuzzText(f *testing.F) {
	f.Add("a, ,b", 60)
	f.Add("0070", 60)
	f.Add("\t Content-Type\xFF", 0)
	f.Add("99999999999999999999x", math.MaxInt)
	f.Fuzz(func(t *testing.T, s string, most int) {
		most &= math.MaxInt
		if got := List(s); !slices.Equal(got, plainList(s)) {
			t.Fatalf("List(%q) = %q", s, got)
		}
		n, ok := Number(s, most)
		if wantN, wantOK := plainNumber(s, most); n != wantN || ok != wantOK {
			t.Fatalf("Number(%q, %d) = %d, %v", s, most, n, ok)
		}
		token := s != ""
		for i := range len(s) {
			token = token && isTokenByte(int(s[i]))
		}
		if Token(s) != token {
			t.Fatalf("Token(%q) = %v", s, !token)
		}
		if len(Lower(s)) != len(s) || Upper(Lower(s)) != Upper(s) || Lower(Upper(s)) != Lower(s) {
			t.Fatalf("Lower(%q) = %q, Upper = %q", s, Lower(s), Upper(s))
		}
	})
}
