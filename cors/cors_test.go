package cors

import (
	"fmt"
	"math"
	"math/rand"
	"slices"
	"strings"
	"testing"

	"pursuivant/api"
	"pursuivant/head"
)

const (
	lowers = "abcdefghijklmnopqrstuvwxyz"
	uppers = "ABCDEFGHIJKLMNOPQRSTUVWXYZ"

	originName = "access-control-allow-origin"
	credName   = "access-control-allow-credentials"

	here = "https://a.example:8443"
)

// otherCreds holds numbers that are not Include; some have the lowest bits of it.
var otherCreds = []int{
	1, 2, 0, -1, -2, -3, -4, 4, 5, 7, 10, 99, 1<<8 + 3, 1<<16 + 3, 1<<31 - 1, 1<<31 + 3, 1<<32 + 3, -1<<31 + 3, -1<<8 + 3,
	math.MaxInt, math.MaxInt - 1, math.MinInt, math.MinInt + 1, math.MinInt + 3,
}

// others holds headers that do not count, though some look like one that does.
func others() []api.Header {
	return lines("Vary: Origin", "Origin: "+here, "Access-Control-Allow-Methods: *", "access-control-allow-headers: *", "Access-Control-Expose-Headers: *", "X-Access-Control-Allow-Origin: *", "access-control-max-age: 1", "Content-Type: text/plain", "access-control-allow: true")
}

// lines returns the headers that are written as name: value.
func lines(texts ...string) []api.Header {
	var out []api.Header
	for _, text := range texts {
		name, value, _ := strings.Cut(text, ": ")
		out = append(out, api.Header{Name: name, Value: value})
	}
	return out
}

// origins returns a header of the origin for each of the values.
func origins(values ...string) []api.Header {
	var out []api.Header
	for _, value := range values {
		out = append(out, api.Header{Name: originName, Value: value})
	}
	return out
}

// withCreds returns headers for the origin, then some for the credentials.
func withCreds(value string, creds ...string) []api.Header {
	out := origins(value)
	for _, cred := range creds {
		out = append(out, api.Header{Name: credName, Value: cred})
	}
	return out
}

// swap returns s with each byte of from replaced by that of to.
func swap(s, from, to string) string {
	out := []byte(s)
	for i, c := range out {
		if place := strings.IndexByte(from, c); place >= 0 {
			out[i] = to[place]
		}
	}
	return string(out)
}

func plainLower(s string) string { return swap(s, uppers, lowers) }
func plainUpper(s string) string { return swap(s, lowers, uppers) }

// cases returns s in lower and upper case, in mixed case, and with a single
// letter in the other case at each place.
func cases(s string) []string {
	low, up := plainLower(s), plainUpper(s)
	mixed := []byte(low)
	for i := 0; i < len(mixed); i += 2 {
		mixed[i] = up[i]
	}
	out := []string{low, up, string(mixed)}
	for i := range len(s) {
		out = append(out, low[:i]+up[i:i+1]+low[i+1:], up[:i]+low[i:i+1]+up[i+1:])
	}
	return out
}

// near returns names that differ from one by a byte: removed, added or changed.
func near(name string) []string {
	var out []string
	for i := range len(name) + 1 {
		for c := range 256 {
			s := string([]byte{byte(c)})
			out = append(out, name[:i]+s+name[i:])
			if i < len(name) && plainLower(s) != name[i:i+1] {
				out = append(out, name[:i]+s+name[i+1:])
			}
		}
		if i < len(name) {
			out = append(out, name[:i]+name[i+1:])
		}
	}
	return out
}

// plainValues goes from the last header to the first.
func plainValues(list []api.Header, name string) []string {
	var out []string
	for i := len(list) - 1; i >= 0; i-- {
		if plainLower(list[i].Name) == name {
			out = append([]string{list[i].Value}, out...)
		}
	}
	return out
}

// plainCheck joins only what it compares with from: neither * nor true can be
// joined from two values.
func plainCheck(list []api.Header, from string, cred int) bool {
	found, creds := plainValues(list, originName), plainValues(list, credName)
	equal := len(found) > 0 && strings.Join(found, ", ") == from
	if cred == 3 {
		return equal && slices.Equal(creds, []string{"true"})
	}
	return equal || slices.Equal(found, []string{"*"})
}

// show writes out a list, as far as a line has room for it.
func show(list []api.Header) string {
	return fmt.Sprintf("%.400s", fmt.Sprintf("%q", list))
}

// check calls Check twice, with a list that has headers behind its length, and
// compares with what is wanted and with the model.
func check(t *testing.T, list []api.Header, from string, cred int, want bool) {
	t.Helper()
	behind := []api.Header{{Name: originName, Value: from}, {Name: credName, Value: "true"}, {Name: "a", Value: "1"}}
	all := slices.Concat(list, behind)
	before, text := slices.Clone(all), strings.Clone(from)
	for range 2 {
		if got := Check(all[:len(list)], from, cred); got != want {
			t.Errorf("Check(%s, %.200q, %d) = %v", show(list), from, cred, got)
		}
	}
	if plainCheck(list, from, cred) != want {
		t.Errorf("the model says otherwise of %s, %.200q, %d", show(list), from, cred)
	}
	if !slices.Equal(all, before) || from != text {
		t.Errorf("of the list %s and what lies behind it, %s is left", show(before), show(all))
	}
}

// checkOthers checks all numbers that are not Include.
func checkOthers(t *testing.T, list []api.Header, from string, want bool) {
	t.Helper()
	for _, cred := range otherCreds {
		check(t, list, from, cred, want)
	}
}

// checkAll checks all numbers.
func checkAll(t *testing.T, list []api.Header, from string, want bool) {
	t.Helper()
	checkOthers(t, list, from, want)
	check(t, list, from, api.Include, want)
}

// placed returns one alone, before, behind and between other headers.
func placed(one ...api.Header) [][]api.Header {
	out := [][]api.Header{one, slices.Concat(one, others()), slices.Concat(others(), one)}
	for i := range others() {
		out = append(out, slices.Insert(others(), i, one...))
	}
	return out
}

func TestNumbers(t *testing.T) {
	if api.Omit != 1 || api.OwnOnly != 2 || api.Include != 3 {
		t.Error(api.Omit, api.OwnOnly, api.Include)
	}
	if slices.Contains(otherCreds, 3) {
		t.Error("the tests take Include for another number")
	}
}

var froms = []string{"", here, "*", "null", "true", "a", " ", ", ", "\xFF"}

func TestWithoutOrigin(t *testing.T) {
	for _, from := range froms {
		checkAll(t, nil, from, false)
		checkAll(t, []api.Header{}, from, false)
		checkAll(t, make([]api.Header, 0, 9), from, false)
		checkAll(t, others(), from, false)
		checkAll(t, []api.Header{{}}, from, false)
		checkAll(t, []api.Header{{}, {Value: from}, {Value: "*"}}, from, false)
		checkAll(t, lines("Origin: "+from, "*: "+from, "allow-origin: *"), from, false)
		for _, value := range []string{"true", from, "*", ""} {
			alone := []api.Header{{Name: credName, Value: value}}
			checkAll(t, alone, from, false)
			checkAll(t, append(alone, alone...), from, false)
			checkAll(t, append(others(), alone...), from, false)
			checkAll(t, append(alone, others()...), from, false)
		}
	}
}

// TestNamesOfTheOrigin has it in every case, at every place.
func TestNamesOfTheOrigin(t *testing.T) {
	for _, name := range append(cases(originName), "Access-Control-Allow-Origin") {
		cred := api.Header{Name: credName, Value: "true"}
		for _, list := range placed(api.Header{Name: name, Value: "*"}) {
			check(t, list, here, api.Omit, true)
			check(t, list, here, api.OwnOnly, true)
			check(t, list, here, api.Include, false)
		}
		for _, list := range placed(api.Header{Name: name, Value: here}) {
			check(t, list, here, api.Omit, true)
			check(t, list, here, api.OwnOnly, true)
			check(t, list, here, api.Include, false)
			check(t, list, here+"0", api.Omit, false)
			check(t, append(list, cred), here, api.Include, true)
			check(t, append([]api.Header{cred}, list...), here, api.Include, true)
			check(t, append(list, cred), here+"0", api.Include, false)
		}
	}
}

func TestNamesNearTheOrigin(t *testing.T) {
	names := append(near(originName), "", "origin", "access-control-allow-origins", "access-control-allow-origi", "ccess-control-allow-origin", "allow-origin", "access_control_allow_origin", "acce\u017F\u017F-control-allow-origin", "access-control-allow-or\u0131gin", "access\u2010control-allow-origin", originName+originName, originName+": ", originName+","+originName)
	for _, name := range names {
		for _, value := range []string{"*", here} {
			list := []api.Header{{Name: name, Value: value}, {Name: credName, Value: "true"}}
			check(t, list, here, api.Omit, false)
			check(t, list, here, api.OwnOnly, false)
			check(t, list, here, api.Include, false)
			check(t, list[:1], "", 0, false)
			check(t, append(list, origins(here)...), here, api.Include, true)
			check(t, append(origins("b"), list...), here, api.Include, false)
			check(t, append(origins("b"), list...), here, api.Omit, false)
		}
	}
}

// TestNamesOfTheCredentials has them in every case, at every place.
func TestNamesOfTheCredentials(t *testing.T) {
	origin := origins(here)[0]
	for _, name := range append(cases(credName), "Access-Control-Allow-Credentials") {
		for _, list := range placed(api.Header{Name: name, Value: "true"}) {
			check(t, append(list, origin), here, api.Include, true)
			check(t, append([]api.Header{origin}, list...), here, api.Include, true)
			check(t, append(list, origin), here+"0", api.Include, false)
		}
		for _, list := range placed(api.Header{Name: name, Value: "false"}) {
			check(t, append(list, origin), here, api.Include, false)
			check(t, append([]api.Header{origin}, list...), here, api.Include, false)
			check(t, append(list, origin), here, api.OwnOnly, true)
		}
		// In whatever case, a second one is joined to the first.
		check(t, append(withCreds(here, "true"), api.Header{Name: name, Value: "true"}), here, api.Include, false)
	}
}

func TestNamesNearTheCredentials(t *testing.T) {
	names := append(near(credName), "", "credentials", "access-control-allow-credential", "access-control-allow-credentialss", "ccess-control-allow-credentials", "allow-credentials", "access_control_allow_credentials", "acce\u017F\u017F-control-allow-credentials", "access-control-allow-cred\u0131ntials", credName+credName, credName+": ", originName+"s")
	for _, name := range names {
		near := api.Header{Name: name, Value: "true"}
		check(t, append(origins(here), near), here, api.Include, false)
		check(t, append([]api.Header{near}, origins(here)...), here, api.Include, false)
		check(t, append(withCreds(here, "true"), near, api.Header{Name: name}), here, api.Include, true)
		check(t, append(withCreds(here, "false"), near), here, api.Include, false)
	}
}

func TestStar(t *testing.T) {
	if len(otherCreds) < 20 {
		t.Fatal(otherCreds)
	}
	for _, from := range froms {
		for _, creds := range [][]string{nil, {"true"}, {"false"}, {""}, {"*"}, {"true", "true"}} {
			list := withCreds("*", creds...)
			for _, cred := range otherCreds {
				check(t, list, from, cred, true)
			}
			check(t, list, from, api.Include, from == "*" && slices.Equal(creds, []string{"true"}))
		}
	}
	check(t, origins("*"), here, api.Omit, true)
	check(t, origins("*"), here, api.OwnOnly, true)
	check(t, origins("*"), here, api.Include, false)
	check(t, withCreds("*", "true"), here, api.Include, false)
	check(t, origins("*"), "*", api.Omit, true)
	check(t, origins("*"), "*", api.OwnOnly, true)
	check(t, origins("*"), "*", api.Include, false)
	check(t, withCreds("*", "true"), "*", api.Include, true)
}

// TestNearlyStar has values that are not *, and are like all others.
func TestNearlyStar(t *testing.T) {
	for _, value := range []string{"", "**", " *", "* ", "\t*", "*\t", " * ", "*,", ",*", "*, *", "*, ", ", *", "'*'", "\"*\"", "*.example", "https://*", "*:*", "+", ")", "\xAA", "\u2217", "*\x00", "%2A", "null", "none", "any", "true"} {
		checkAll(t, withCreds(value, "true"), here, false)
		checkAll(t, withCreds(value, "true"), "*", false)
		checkAll(t, withCreds(value, "true"), value, true)
		checkOthers(t, origins(value), value, true)
	}
	for c := range 256 {
		value := string([]byte{byte(c)})
		checkOthers(t, origins(value), here, c == '*')
		check(t, withCreds(value, "true"), here, api.Include, false)
		check(t, withCreds(value, "true"), value, api.Include, true)
	}
	// The other side has no star: a from of * is one text among others.
	checkAll(t, withCreds(here, "true"), "*", false)
	checkAll(t, withCreds("", "true"), "*", false)
}

func TestOrigin(t *testing.T) {
	for _, from := range []string{"a", "http://a", "https://a.example", here, "http://1.2.3.4:1", "null", "A", "HTTP://A", "http://a/", "http://a:80", "x y", " a ", "a, b", "*, *", "true", "\xFF", "\u00E9", "\x00", ""} {
		checkAll(t, withCreds(from, "true"), from, true)
		checkOthers(t, origins(from), from, true)
		check(t, origins(from), from, api.Include, false)
		for _, creds := range []string{"", "false", "TRUE"} {
			checkOthers(t, withCreds(from, creds), from, true)
			check(t, withCreds(from, creds), from, api.Include, false)
		}
	}
}

// TestOriginOfOtherLength has values one byte longer and shorter.
func TestOriginOfOtherLength(t *testing.T) {
	for _, from := range []string{"a", "null", "http://a", here, "*a", "a*", "\xFF\xFE"} {
		for i := range len(from) + 1 {
			for _, c := range []string{"a", "/", " ", "\t", "0", "*", ",", "\x00", "\xFF"} {
				longer := from[:i] + c + from[i:]
				checkAll(t, withCreds(longer, "true"), from, false)
				check(t, withCreds(from, "true"), longer, api.Include, false)
				check(t, origins(from), longer, api.Omit, false)
			}
			if i < len(from) {
				shorter := from[:i] + from[i+1:]
				check(t, withCreds(shorter, "true"), from, api.Include, false)
				check(t, origins(shorter), from, api.Omit, shorter == "*")
				check(t, origins(shorter), from, api.OwnOnly, shorter == "*")
			}
		}
	}
	checkAll(t, withCreds("http://a", "true"), "http://a.example", false)
	checkAll(t, withCreds("http://a.example", "true"), "http://a", false)
	checkAll(t, withCreds("a", "true"), "http://a", false)
	checkAll(t, withCreds("http://a:80", "true"), "http://a", false)
	checkAll(t, withCreds("http://a", "true"), "https://a", false)
}

// TestOriginOfOtherBytes has values of the same length.
func TestOriginOfOtherBytes(t *testing.T) {
	for _, s := range cases(here) {
		checkAll(t, withCreds(s, "true"), here, s == here)
		checkAll(t, withCreds(here, "true"), s, s == here)
		checkAll(t, withCreds(s, "true"), s, true)
	}
	for i := range len(here) {
		for c := range 256 {
			s := here[:i] + string([]byte{byte(c)}) + here[i+1:]
			check(t, withCreds(s, "true"), here, api.Include, s == here)
			check(t, origins(s), here, api.Omit, s == here)
			check(t, origins(here), s, api.OwnOnly, s == here)
		}
	}
	for _, s := range []string{"NULL", "Null", "nulL", "none", "nil", "nul", "nulll", "'null'"} {
		checkAll(t, withCreds(s, "true"), "null", false)
		checkAll(t, withCreds("null", "true"), s, false)
	}
}

func TestOriginWithWhitespace(t *testing.T) {
	for _, space := range []string{" ", "\t", "  ", " \t", "\n", "\r\n", "\v", "\u00A0", "\u2003", "\uFEFF"} {
		for _, from := range []string{here, "null", "a", ""} {
			for _, s := range []string{space + from, from + space, space + from + space} {
				checkAll(t, withCreds(s, "true"), from, false)
				checkAll(t, withCreds(from, "true"), s, false)
				checkAll(t, withCreds(s, "true"), s, true)
			}
		}
	}
}

func TestEmptyOrigin(t *testing.T) {
	checkOthers(t, origins(""), "", true)
	check(t, origins(""), "", api.Include, false)
	checkAll(t, withCreds("", "true"), "", true)
	check(t, withCreds("", ""), "", api.Include, false)
	for _, from := range froms[1:] {
		checkAll(t, withCreds("", "true"), from, false)
		checkAll(t, origins(""), from, false)
		if from != "*" {
			checkAll(t, withCreds(from, "true"), "", false)
			checkAll(t, origins(from), "", false)
		}
	}
	checkOthers(t, origins("*"), "", true)
	check(t, withCreds("*", "true"), "", api.Include, false)
}

func TestCredentials(t *testing.T) {
	for _, from := range []string{here, "null", "*", "", "true", "\xFF"} {
		check(t, withCreds(from), from, api.Include, false)
		check(t, withCreds(from, "true"), from, api.Include, true)
		check(t, append(others(), withCreds(from, "true")...), from, api.Include, true)
		for _, s := range cases("true") {
			check(t, withCreds(from, s), from, api.Include, s == "true")
		}
		for _, s := range near("true") {
			check(t, withCreds(from, s), from, api.Include, s == "true")
		}
		for _, s := range []string{"True", "TRUE", "false", "False", "", " ", "1", "yes", "on", "*", "null", from + "x", "'true'", "\"true\"", "true;", "true,", ",true", "true, ", ", true", "true, true", "true true", "truetrue", "tru", "rue", "\ttrue", "true\t", " true", "true ", " true ", "true\n", "true\x00", "\u00A0true", "true=1"} {
			checkOthers(t, withCreds(from, s), from, true)
			check(t, withCreds(from, s), from, api.Include, false)
		}
	}
}

func TestCredentialsTwice(t *testing.T) {
	for _, creds := range [][]string{{"true", "true"}, {"true", ""}, {"", "true"}, {"true", "false"}, {"false", "true"}, {"", ""}, {"tr", "ue"}, {"true", "true", "true"}, {"true", "x", "true"}, {"TRUE", "true"}} {
		checkOthers(t, withCreds(here, creds...), here, true)
		check(t, withCreds(here, creds...), here, api.Include, false)
		reversed := withCreds(here, creds...)
		slices.Reverse(reversed)
		check(t, reversed, here, api.Include, false)
		apart := slices.Concat(withCreds(here, creds...), others(), lines("Access-Control-Allow-Credentials: true"))
		check(t, apart, here, api.Include, false)
	}
}

func TestOriginTwice(t *testing.T) {
	for _, one := range []struct {
		values []string
		joined string
	}{
		{[]string{here, here}, here + ", " + here},
		{[]string{"a", "a"}, "a, a"},
		{[]string{"*", "*"}, "*, *"},
		{[]string{"*", here}, "*, " + here},
		{[]string{here, "*"}, here + ", *"},
		{[]string{"*", ""}, "*, "},
		{[]string{"", "*"}, ", *"},
		{[]string{"", ""}, ", "},
		{[]string{"", here}, ", " + here},
		{[]string{here, ""}, here + ", "},
		{[]string{"null", "null"}, "null, null"},
		{[]string{"a", "b"}, "a, b"},
		{[]string{"b", "a"}, "b, a"},
		{[]string{"a", "b", "c"}, "a, b, c"},
		{[]string{"*", "*", "*"}, "*, *, *"},
		{[]string{"", "", ""}, ", , "},
		{[]string{"a, b", "c"}, "a, b, c"},
		{[]string{"\xFF", "\u00E9"}, "\xFF, \u00E9"},
	} {
		list := origins(one.values...)
		if got, ok := head.Get(list, originName); got != one.joined || !ok {
			t.Errorf("the values %q are joined to %q", one.values, got)
		}
		full := append(slices.Clone(list), api.Header{Name: credName, Value: "true"})
		checkAll(t, full, one.joined, true)
		checkOthers(t, list, one.joined, true)
		check(t, list, one.joined, api.Include, false)
		for _, from := range slices.Concat(one.values, []string{"*", "", here, "c", strings.Join(one.values, ","), strings.Join(one.values, " "), strings.Join(one.values, ""), one.joined + ", ", " " + one.joined}) {
			checkAll(t, full, from, false)
			checkAll(t, list, from, false)
		}
	}
}

// TestOriginTwiceApart has two headers in different cases, with others between.
func TestOriginTwiceApart(t *testing.T) {
	for _, name := range cases(originName) {
		first, last := api.Header{Name: name, Value: "*"}, api.Header{Name: originName, Value: here}
		list := slices.Concat([]api.Header{first}, others(), []api.Header{last}, lines("Access-Control-Allow-Credentials: true"))
		checkAll(t, list, here, false)
		checkAll(t, list, "*", false)
		checkAll(t, list, "*, "+here, true)
		slices.Reverse(list)
		checkAll(t, list, here, false)
		checkAll(t, list, "*", false)
		checkAll(t, list, here+", *", true)
	}
}

func TestNotASCII(t *testing.T) {
	texts := []string{"\x80", "\xFF", "\xC3", "\xA9", "\u00E9", "\u00C9", "e\u0301", "\u212A", "k", "K", "\u017F", "s", "\uFFFD", "\xFF\xFD", "\xEF\xBF", "http://\u00E9", "http://\u00C9", "http://xn--9ca", "\U0001F600", "\xED\xA0\x80"}
	for _, value := range texts {
		for _, from := range texts {
			checkAll(t, withCreds(value, "true"), from, value == from)
			checkOthers(t, origins(value), from, value == from)
		}
		checkOthers(t, origins("*"), value, true)
		check(t, withCreds("*", "true"), value, api.Include, false)
		check(t, withCreds(value, value), value, api.Include, false)
		check(t, withCreds(value, "true"+value), value, api.Include, false)
		check(t, withCreds(value, value+"true"), value, api.Include, false)
		check(t, withCreds("*"+value, "true"), "*", api.Include, false)
		checkOthers(t, origins("*"+value), "*", false)
		checkOthers(t, origins(value+"*"), "*", false)
	}
	for c := 128; c < 256; c++ {
		s := string([]byte{byte(c)})
		checkAll(t, withCreds(here+s, "true"), here, false)
		checkAll(t, withCreds(here, "true"), here+s, false)
		checkAll(t, withCreds(here+s, "true"), here+s, true)
	}
}

// TestLong has lists and texts above all limits, which count nothing here.
func TestLong(t *testing.T) {
	for _, length := range []int{511, 512, 513, 1024, 1 << 16, 1 << 20} {
		from := strings.Repeat("x", length)
		check(t, withCreds(from, "true"), from, api.Include, true)
		check(t, withCreds(from, "true"), from[1:], api.Include, false)
		check(t, withCreds(from[1:], "true"), from, api.Omit, false)
		check(t, withCreds(here, from), here, api.Include, false)
		check(t, origins("*"), from, api.Omit, true)
		check(t, append(lines(from+": *"), origins(here)...), here, api.Omit, true)
	}
	for _, number := range []int{23, 24, 25, 26, 255, 256, 1000, 1 << 12} {
		many := slices.Repeat(others()[:1], number)
		check(t, append(slices.Clone(many), withCreds(here, "true")...), here, api.Include, true)
		check(t, append(withCreds(here, "true"), many...), here, api.Include, true)
		check(t, append(slices.Clone(many), origins("*")...), here, api.Omit, true)
		check(t, many, here, api.Omit, false)
		check(t, origins(slices.Repeat([]string{"*"}, number)...), here, api.Omit, false)
		joined := strings.Repeat("a, ", number-1) + "a"
		check(t, origins(slices.Repeat([]string{"a"}, number)...), joined, api.Omit, true)
	}
}

func TestNothingIsKept(t *testing.T) {
	for range 3 {
		check(t, withCreds(here, "true"), here, api.Include, true)
		check(t, nil, here, api.Include, false)
		check(t, origins("*"), here, api.Omit, true)
		check(t, nil, here, api.Omit, false)
		check(t, origins(here), here, api.Include, false)
		check(t, origins("b"), here, api.OwnOnly, false)
		check(t, withCreds("b", "true"), "b", api.Include, true)
	}
}

// randomList returns headers of few names and values.
func randomList(r *rand.Rand) []api.Header {
	names := []string{originName, "Access-Control-Allow-Origin", credName, credName, "ACCESS-CONTROL-ALLOW-CREDENTIALS", "vary", "access-control-allow-origins", ""}
	values := []string{"*", "*", "a", "a", "true", "true", "True", "", "null", "a, a", "\xFF", "b"}
	var out []api.Header
	for range r.Intn(6) {
		out = append(out, api.Header{Name: names[r.Intn(len(names))], Value: values[r.Intn(len(values))]})
	}
	return out
}

func TestRandom(t *testing.T) {
	r := rand.New(rand.NewSource(13))
	texts := []string{"a", "*", "", "null", "a, a", "*, a", "\xFF", "true"}
	counts := map[[2]bool]int{}
	for range 60000 {
		list, from, cred := randomList(r), texts[r.Intn(len(texts))], r.Intn(4)
		if r.Intn(2) == 0 {
			cred = api.Include
		}
		if value, ok := head.Get(list, originName); ok && r.Intn(2) == 0 {
			from = value
		}
		want := plainCheck(list, from, cred)
		check(t, list, from, cred, want)
		counts[[2]bool{cred == api.Include, want}]++
	}
	for _, key := range [][2]bool{{false, false}, {false, true}, {true, false}, {true, true}} {
		if counts[key] < 500 {
			t.Errorf("of the results %v, one is hardly tested", counts)
		}
	}
}

// FuzzCORS takes its list from the lines of a text.
func FuzzCORS(f *testing.F) {
	f.Add("Access-Control-Allow-Origin: *", here, 1)
	f.Add("vary: origin\naccess-control-allow-origin: a\nAccess-Control-Allow-Credentials: true", "a", 3)
	f.Add(originName+": a\n"+originName+": a", "a, a", -3)
	f.Add("", "", 0)
	f.Fuzz(func(t *testing.T, text, from string, cred int) {
		list := lines(strings.Split(text, "\n")...)
		for _, cred := range []int{cred, api.Omit, api.Include} {
			check(t, list, from, cred, plainCheck(list, from, cred))
			full := append(withCreds(from, "true"), list...)
			check(t, full, from, cred, plainCheck(full, from, cred))
		}
	})
}
