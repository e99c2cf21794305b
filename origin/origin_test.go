package origin

import (
	"fmt"
	"math"
	"math/rand"
	"regexp"
	"strconv"
	"strings"
	"testing"

	"pursuivant/api"
	"pursuivant/url"
)

var (
	hostForm = regexp.MustCompile(`\A[a-z0-9]([a-z0-9-]{0,61}[a-z0-9])?(\.[a-z0-9]([a-z0-9-]{0,61}[a-z0-9])?)*\z`)
	textForm = regexp.MustCompile(`\A(https?)://([a-z0-9.-]+)(?::([1-9][0-9]{0,4}))?\z`)
)

func plainDefault(scheme string) int {
	return map[string]int{"http": 80, "https": 443}[scheme]
}

// plainGood follows the chapter's words field by field.
func plainGood(o api.Origin) bool {
	if o.Scheme == "" && o.Host == "" && o.Port == 0 {
		return true
	}
	switch {
	case plainDefault(o.Scheme) == 0:
	case len(o.Host) > 253, !hostForm.MatchString(o.Host):
	case o.Port < 1, o.Port > 65535:
	default:
		return true
	}
	return false
}

// plainText takes the default ports off a text that has the port in any case.
func plainText(o api.Origin) string {
	if !plainGood(o) {
		return ""
	}
	if o.Port == 0 {
		return "null"
	}
	s := strings.Join([]string{o.Scheme, "//" + o.Host, strconv.Itoa(o.Port)}, ":")
	if o.Scheme == "http" {
		return strings.TrimSuffix(s, ":80")
	}
	return strings.TrimSuffix(s, ":443")
}

// plainParse takes s apart by a regular expression, without the package url.
func plainParse(s string) (api.Origin, api.Errno) {
	if s == "null" {
		return api.Origin{}, api.OK
	}
	found := textForm.FindStringSubmatch(s)
	if found == nil {
		return api.Origin{}, api.ErrText
	}
	o := api.Origin{Scheme: found[1], Host: found[2], Port: plainDefault(found[1])}
	if found[3] != "" {
		o.Port, _ = strconv.Atoi(found[3])
		if o.Port == plainDefault(o.Scheme) {
			return api.Origin{}, api.ErrText
		}
	}
	if !plainGood(o) {
		return api.Origin{}, api.ErrText
	}
	return o, api.OK
}

// show writes out a struct, as far as a line has room for it.
func show(v any) string {
	return fmt.Sprintf("%.300s", fmt.Sprintf("%#v", v))
}

func checkOf(t *testing.T, u api.URL, want api.Origin) {
	t.Helper()
	if got := Of(u); got != want {
		t.Errorf("Of(%s) = %s, want %s", show(u), show(got), show(want))
	}
}

// checkValid checks all that concerns a valid origin that is not opaque.
func checkValid(t *testing.T, o api.Origin, text string) {
	t.Helper()
	if !Good(o) {
		t.Errorf("Good(%s) = false", show(o))
	}
	if got := Text(o); got != text {
		t.Errorf("Text(%s) = %.300q, want %.300q", show(o), got, text)
	}
	if got, e := Parse(text); got != o || e != api.OK {
		t.Errorf("Parse(%.300q) = %s, %d, want %s, OK", text, show(got), e, show(o))
	}
	if !Same(o, o) {
		t.Errorf("Same(%s) with itself = false", show(o))
	}
}

// checkNotValid also checks that an origin that is not valid is none for the
// other functions.
func checkNotValid(t *testing.T, o api.Origin) {
	t.Helper()
	if Good(o) {
		t.Errorf("Good(%s) = true", show(o))
	}
	if got := Text(o); got != "" {
		t.Errorf("Text(%s) = %.300q, want nothing", show(o), got)
	}
	if Same(o, o) {
		t.Errorf("Same(%s) with itself = true", show(o))
	}
}

func checkNoParse(t *testing.T, s string) {
	t.Helper()
	if o, e := Parse(s); o != (api.Origin{}) || e != api.ErrText {
		t.Errorf("Parse(%.300q) = %s, %d, want the zero origin, ErrText", s, show(o), e)
	}
}

func checkPlain(t *testing.T, s string) api.Errno {
	t.Helper()
	want, wantError := plainParse(s)
	if o, e := Parse(s); o != want || e != wantError {
		t.Errorf("Parse(%.300q) = %s, %d, want %s, %d", s, show(o), e, show(want), wantError)
	}
	return wantError
}

func checkSame(t *testing.T, a, b api.Origin, want bool) {
	t.Helper()
	if got := Same(a, b); got != want {
		t.Errorf("Same(%s, %s) = %v, want %v", show(a), show(b), got, want)
	}
	if got := Same(b, a); got != want {
		t.Errorf("Same(%s, %s) = %v, want %v", show(b), show(a), got, want)
	}
}

// hostOf returns a text of parts with these lengths, joined by dots.
func hostOf(lengths ...int) string {
	var list []string
	for _, length := range lengths {
		list = append(list, strings.Repeat("x", length))
	}
	return strings.Join(list, ".")
}

var goodHosts = []string{"a", "z", "0", "9", "example", "a.example", "www.example.com", "a-b", "a--b.c", "xn--bcher-kva.example", "127.0.0.1", "0.0", "80", "443", "a.80", "null", "http", "https", hostOf(63), hostOf(63, 63, 63, 61), strings.Repeat("a.", 126) + "a"}

var badHosts = []string{
	"", ".", "..", "-", "a.", ".a", "a..b", "-a", "a-", "a.-b", "a-.b",
	"A", "Z", "EXAMPLE", "A.example", "a.Example", "a.examplE",
	"a_b", "a b", " a", "a ", "a\n", "\ta", "a\x00", "a:80", "a:", ":80", "a/", "/a", "a?", "a#", "u@a", "@a", "*", "*.a", "[::1]", "::1", "%61", "\u00E9", "\u212A", "\xFF", "a\xFF",
	hostOf(64), hostOf(63, 63, 63, 62), hostOf(63, 63, 63, 61) + ".", hostOf(63, 64, 1), strings.Repeat("a.", 127) + "a", strings.Repeat("a.", 500) + "a",
}

var badPorts = []int{0, -1, -2, -79, -80, -443, -8080, -65535, -65536, 65536, 65537, 65536 + 80, 65536 + 443, 1 << 17, 1<<31 - 1, 1 << 31, 1 << 32, 1<<32 + 80, 1<<32 + 443, math.MaxInt, math.MinInt, math.MinInt + 80}

var badSchemes = []string{"", "HTTP", "HTTPS", "Http", "httP", "hTTps", "httpS", "ftp", "ws", "wss", "file", "data", "blob", "about", "h", "htt", "ttp", "httpss", "xhttp", "httpx", "http:", "https:", "http://", " http", "http ", "http\x00", "\xFF", "null", "\u017F", "http\u017F"}

func TestOfKnown(t *testing.T) {
	for text, want := range map[string]api.Origin{
		"http://a":                       {Scheme: "http", Host: "a", Port: 80},
		"http://a/":                      {Scheme: "http", Host: "a", Port: 80},
		"http://a:80/":                   {Scheme: "http", Host: "a", Port: 80},
		"http://a:443/":                  {Scheme: "http", Host: "a", Port: 443},
		"http://a:8080/":                 {Scheme: "http", Host: "a", Port: 8080},
		"https://a":                      {Scheme: "https", Host: "a", Port: 443},
		"https://a:443/":                 {Scheme: "https", Host: "a", Port: 443},
		"https://a:80":                   {Scheme: "https", Host: "a", Port: 80},
		"https://a:1/":                   {Scheme: "https", Host: "a", Port: 1},
		"https://a:65535":                {Scheme: "https", Host: "a", Port: 65535},
		"HTTP://A.Example:80?x":          {Scheme: "http", Host: "a.example", Port: 80},
		"hTTpS://A.EXAMPLE/X":            {Scheme: "https", Host: "a.example", Port: 443},
		"http://u@a/":                    {Scheme: "http", Host: "a", Port: 80},
		"http://b:81@a/":                 {Scheme: "http", Host: "a", Port: 80},
		"https://u:p@a.example:8443/b?c": {Scheme: "https", Host: "a.example", Port: 8443},
		"http://a?http://b":              {Scheme: "http", Host: "a", Port: 80},
		"http://a#https://b:8":           {Scheme: "http", Host: "a", Port: 80},
		"http://a:8/@b:9":                {Scheme: "http", Host: "a", Port: 8},
	} {
		u, e := url.Parse(text)
		if e != api.OK {
			t.Fatalf("%q is no URL", text)
		}
		checkOf(t, u, want)
	}
}

// shapes returns valid URLs of a scheme, a host and a port, with and without
// each of the other parts.
func shapes(scheme, name string, port int) []api.URL {
	var out []api.URL
	for _, user := range []string{"", "u", "b:81", "me:pw", strings.Repeat("u", 128)} {
		for _, path := range []string{"/", "//b:81", "/b/../c", "/" + strings.Repeat("p", 500)} {
			for _, query := range []string{"-", "", "?", "q=http://b:81/"} {
				for _, frag := range []string{"-", "", "#", "f?https://b:81"} {
					u := api.URL{Scheme: scheme, User: user, Host: name, Port: port, Path: path}
					if query != "-" {
						u.HasQuery, u.Query = true, query
					}
					if frag != "-" {
						u.HasFrag, u.Frag = true, frag
					}
					out = append(out, u)
				}
			}
		}
	}
	return out
}

func TestOfEveryShape(t *testing.T) {
	for _, name := range goodHosts {
		for _, port := range []int{1, 79, 81, 442, 444, 8080, 65534, 65535} {
			for _, u := range append(shapes("http", name, port), shapes("https", name, port)...) {
				checkOf(t, u, api.Origin{Scheme: u.Scheme, Host: name, Port: port})
			}
		}
		for _, u := range shapes("http", name, 0) {
			checkOf(t, u, api.Origin{Scheme: "http", Host: name, Port: 80})
		}
		for _, u := range shapes("https", name, 0) {
			checkOf(t, u, api.Origin{Scheme: "https", Host: name, Port: 443})
		}
		for _, u := range shapes("http", name, 443) {
			checkOf(t, u, api.Origin{Scheme: "http", Host: name, Port: 443})
		}
		for _, u := range shapes("https", name, 80) {
			checkOf(t, u, api.Origin{Scheme: "https", Host: name, Port: 80})
		}
	}
}

func TestOfEveryPort(t *testing.T) {
	for port := 1; port <= 65535; port++ {
		for scheme, usual := range map[string]int{"http": 80, "https": 443} {
			want := api.Origin{Scheme: scheme, Host: "a", Port: port}
			if port == usual {
				want = api.Origin{} // a valid URL leaves it out
			}
			checkOf(t, api.URL{Scheme: scheme, Host: "a", Port: port, Path: "/"}, want)
		}
	}
}

func TestOfNotValid(t *testing.T) {
	checkOf(t, api.URL{}, api.Origin{})
	for _, start := range []api.URL{
		{Scheme: "http", Host: "a", Path: "/"},
		{Scheme: "https", Host: "a", Path: "/"},
		{Scheme: "https", User: "u", Host: "a.example", Port: 8443, Path: "/b", HasQuery: true, Query: "c", HasFrag: true, Frag: "d"},
	} {
		checkOf(t, start, api.Origin{Scheme: start.Scheme, Host: start.Host, Port: url.Port(start)})
		spoil := func(change func(u *api.URL)) {
			t.Helper()
			u := start
			change(&u)
			checkOf(t, u, api.Origin{})
		}
		for _, scheme := range badSchemes {
			spoil(func(u *api.URL) { u.Scheme = scheme })
		}
		for _, name := range badHosts {
			spoil(func(u *api.URL) { u.Host = name })
		}
		for _, port := range badPorts {
			if port != 0 { // which stands for the default port in a URL
				spoil(func(u *api.URL) { u.Port = port })
			}
		}
		spoil(func(u *api.URL) { u.Port = plainDefault(u.Scheme) })
		for _, user := range []string{"@", "u@", "/", "?", "#", "u v", "\x00", "\xFF", strings.Repeat("u", 129)} {
			spoil(func(u *api.URL) { u.User = user })
		}
		for _, path := range []string{"", "b", "b/", "?", "/?", "/#", "/ ", "/\\", "/\xFF", "/" + strings.Repeat("p", 1024)} {
			spoil(func(u *api.URL) { u.Path = path })
		}
		for _, query := range []string{"#", " ", "{", "\xFF", strings.Repeat("q", 1024)} {
			spoil(func(u *api.URL) { u.HasQuery, u.Query = true, query })
		}
		for _, frag := range []string{" ", "{", "\xFF", strings.Repeat("f", 1024)} {
			spoil(func(u *api.URL) { u.HasFrag, u.Frag = true, frag })
		}
		spoil(func(u *api.URL) { u.HasQuery, u.Query = false, "q" })
		spoil(func(u *api.URL) { u.HasFrag, u.Frag = false, "f" })
	}
}

// TestOfLongest has URLs whose validity hangs on one byte that no origin
// contains.
func TestOfLongest(t *testing.T) {
	for length := 1000; length <= 1050; length++ {
		want := api.Origin{Scheme: "http", Host: "a", Port: 8}
		if length > 1024 {
			want = api.Origin{}
		}
		for _, user := range []string{"", strings.Repeat("u", 128)} {
			checkOf(t, api.URL{Scheme: "http", User: user, Host: "a", Port: 8, Path: "/" + strings.Repeat("p", length-len("http://a:8/"))}, want)
			checkOf(t, api.URL{Scheme: "http", User: user, Host: "a", Port: 8, Path: "/", HasFrag: true, Frag: strings.Repeat("f", length-len("http://a:8/#"))}, want)
		}
	}
}

func TestOpaque(t *testing.T) {
	opaque := api.Origin{}
	if !Good(opaque) {
		t.Error("the opaque origin is not valid")
	}
	if got := Text(opaque); got != "null" {
		t.Errorf("the Text of the opaque origin is %q", got)
	}
	if o, e := Parse("null"); o != opaque || e != api.OK {
		t.Errorf("Parse of null = %s, %d", show(o), e)
	}
	checkSame(t, opaque, opaque, false)
	for _, s := range []string{"Null", "NULL", "nulL", "nUll", "nul", "nulll", "nullnull", "null ", " null", "null\n", "\tnull", "null\x00", "null/", "null:", "null:80", "/null", "//null", "\"null\"", "null,null", "null null", "nil", "opaque", "0", "\u0000", "nu\u217C\u217C"} {
		checkNoParse(t, s)
	}
	checkValid(t, api.Origin{Scheme: "http", Host: "null", Port: 80}, "http://null")
}

// TestSomeFieldsZero has every choice of fields that are zero.
func TestSomeFieldsZero(t *testing.T) {
	for _, scheme := range []string{"http", "https"} {
		for _, port := range []int{1, 80, 443, 8080, 65535} {
			checkNotValid(t, api.Origin{Scheme: scheme})
			checkNotValid(t, api.Origin{Host: "a"})
			checkNotValid(t, api.Origin{Port: port})
			checkNotValid(t, api.Origin{Scheme: scheme, Host: "a"})
			checkNotValid(t, api.Origin{Scheme: scheme, Port: port})
			checkNotValid(t, api.Origin{Host: "a", Port: port})
			if !Good(api.Origin{Scheme: scheme, Host: "a", Port: port}) {
				t.Errorf("%s with port %d is not valid", scheme, port)
			}
		}
	}
}

func TestKnown(t *testing.T) {
	checkValid(t, api.Origin{Scheme: "http", Host: "a", Port: 8080}, "http://a:8080") // of the chapter
	for text, o := range map[string]api.Origin{
		"http://a":               {Scheme: "http", Host: "a", Port: 80},
		"http://a:443":           {Scheme: "http", Host: "a", Port: 443},
		"http://a:1":             {Scheme: "http", Host: "a", Port: 1},
		"http://a:8":             {Scheme: "http", Host: "a", Port: 8},
		"http://a:800":           {Scheme: "http", Host: "a", Port: 800},
		"http://a:65535":         {Scheme: "http", Host: "a", Port: 65535},
		"https://a":              {Scheme: "https", Host: "a", Port: 443},
		"https://a:80":           {Scheme: "https", Host: "a", Port: 80},
		"https://a:1":            {Scheme: "https", Host: "a", Port: 1},
		"https://a:44":           {Scheme: "https", Host: "a", Port: 44},
		"https://a:4430":         {Scheme: "https", Host: "a", Port: 4430},
		"https://a:65535":        {Scheme: "https", Host: "a", Port: 65535},
		"https://a.example:8443": {Scheme: "https", Host: "a.example", Port: 8443},
		"http://80":              {Scheme: "http", Host: "80", Port: 80},
		"http://80:443":          {Scheme: "http", Host: "80", Port: 443},
		"http://http":            {Scheme: "http", Host: "http", Port: 80},
		"https://127.0.0.1:80":   {Scheme: "https", Host: "127.0.0.1", Port: 80},
		"http://a-b.c--d:10000":  {Scheme: "http", Host: "a-b.c--d", Port: 10000},
	} {
		checkValid(t, o, text)
	}
}

func TestGoodHosts(t *testing.T) {
	for _, name := range goodHosts {
		checkValid(t, api.Origin{Scheme: "http", Host: name, Port: 80}, "http://"+name)
		checkValid(t, api.Origin{Scheme: "https", Host: name, Port: 443}, "https://"+name)
		checkValid(t, api.Origin{Scheme: "http", Host: name, Port: 443}, "http://"+name+":443")
		checkValid(t, api.Origin{Scheme: "https", Host: name, Port: 80}, "https://"+name+":80")
		checkValid(t, api.Origin{Scheme: "https", Host: name, Port: 65535}, "https://"+name+":65535")
	}
}

func TestBadHosts(t *testing.T) {
	for _, name := range badHosts {
		for _, scheme := range []string{"http", "https"} {
			for _, port := range []int{80, 443, 8080} {
				checkNotValid(t, api.Origin{Scheme: scheme, Host: name, Port: port})
			}
			if name != "a:80" || scheme != "https" { // which is the Text of another origin
				checkNoParse(t, scheme+"://"+name)
			}
			checkNoParse(t, scheme+"://"+name+":8080")
		}
	}
}

func TestSchemes(t *testing.T) {
	for _, scheme := range badSchemes {
		for _, port := range []int{0, 1, 21, 80, 443, 8080} {
			checkNotValid(t, api.Origin{Scheme: scheme, Host: "a", Port: port})
		}
		for _, rest := range []string{"://a", "://a:80", "://a:443", "://a:8080"} {
			checkNoParse(t, scheme+rest)
		}
	}
}

func TestPorts(t *testing.T) {
	for _, scheme := range []string{"http", "https"} {
		for _, port := range badPorts {
			checkNotValid(t, api.Origin{Scheme: scheme, Host: "a", Port: port})
			checkNoParse(t, scheme+"://a:"+strconv.Itoa(port))
		}
	}
}

// TestEveryPort writes each port in the ways that are Texts and that are not.
func TestEveryPort(t *testing.T) {
	for port := -70; port <= 70000; port++ {
		digits := strconv.Itoa(port)
		for scheme, usual := range map[string]int{"http": 80, "https": 443} {
			o := api.Origin{Scheme: scheme, Host: "a", Port: port}
			switch {
			case port < 1 || port > 65535:
				checkNotValid(t, o)
				checkNoParse(t, scheme+"://a:"+digits)
			case port == usual:
				checkValid(t, o, scheme+"://a")
				checkNoParse(t, scheme+"://a:"+digits)
			default:
				checkValid(t, o, scheme+"://a:"+digits)
			}
			checkNoParse(t, scheme+"://a:0"+digits)
		}
	}
}

func TestParseKnown(t *testing.T) {
	for _, s := range []string{
		// parts that are missing
		"", "a", ":", "/", "//", "://", "//a", "//a:8080", "://a", "http", "https", "http:", "http:/", "http://", "https://", "http:a", "http:/a", "http:///", "http:///a", "http://:80", "http://:8080", "a:8080", "http//a", "httpa",
		// the default port
		"http://a:80", "https://a:443", "http://a.example:80", "https://a.example:443", "http://80:80",
		// leading zeros
		"http://a:080", "http://a:0443", "https://a:080", "https://a:0443", "http://a:01", "http://a:00001", "http://a:008080", "https://a:08443",
		// other ports
		"http://a:0", "https://a:0", "http://a:00", "http://a:65536", "https://a:65536", "http://a:65616", "https://a:65979", "http://a:99999", "http://a:100000", "http://a:4294967376", "http://a:18446744073709551696", "http://a:" + strings.Repeat("9", 900),
		"http://a:-1", "http://a:-80", "http://a:+80", "http://a:+8080", "http://a: 80", "http://a:80 ", "http://a:8 0", "http://a:0x50", "http://a:1e3", "http://a:8_0", "http://a:8.0", "http://a:80a", "http://a:a", "http://a:\u0661", "http://a:http",
		// an empty port
		"http://a:", "https://a:", "http://a.example:", "http://a:/", "http://a::", "http://a::80", "http://a:80:", "http://a:1:2", "https://a:80:80",
		// upper case
		"HTTP://a", "Http://a", "httP://a", "HTTPS://a", "httpS://a", "Https://a:8443", "http://A", "http://A:8080", "https://a.Example", "https://EXAMPLE", "http://a.examplE:1", "HTTP://A",
		// a User
		"http://u@a", "http://u:p@a", "https://u@a:8443", "http://u:p@a:8080", "http://@a", "http://@a:8080", "http://a@", "http://a@b@c", "http://u@", "http://null@a",
		// more than the origin
		"http://a/", "https://a/", "http://a:8080/", "http://a//", "http://a/b", "http://a/b/", "http://a:8080/b/c", "https://a:8443/.", "http://a/..", "http://a/b?c#d", "http://a\\",
		"http://a?", "http://a?b", "https://a:8443?", "http://a/?", "http://a#", "http://a#b", "https://a:8443#", "http://a/#", "http://a?#", "http://a/?#",
		// other bytes
		" ", " http://a", "http://a ", "http ://a", "http: //a", "http:// a", "http://a b", "\thttp://a", "http://a\t", "http://a\n", "http://a\r\n", "\nhttp://a", "http://a\x00", "\x00", "http://a,http://b", "http://a http://b", "http://a,", "\"http://a\"", "<http://a>", "*", "http://*", "http://*.a", "\u00E9", "http://\u00E9", "\uFEFFhttp://a", "\xFF", "http://\xFF", "http://a\xFF", "http://%61", "http://[::1]",
		// other schemes
		"ftp://a", "ws://a", "wss://a", "file://a", "file:///", "data:,a", "about:blank", "blob:http://a", "javascript:a", "httpss://a", "xhttp://a", "view-source:http://a", "http:http://a", "http://http://a",
	} {
		checkNoParse(t, s)
	}
}

// TestParseLong has texts that are too long for any origin, and for any URL.
func TestParseLong(t *testing.T) {
	checkPlain(t, "http://"+hostOf(63, 63, 63, 61))
	for _, length := range []int{254, 255, 256, 270, 1000, 1024, 1025, 1160, 1161, 1162, 1163, 5000, 1 << 16, 1 << 20} {
		x := strings.Repeat("x", length)
		dots := strings.Repeat("a.", length/2) + "a"
		for _, s := range []string{
			x, "null" + x, strings.Repeat("null", length/4+2), "http://" + x, "https://" + x, "http://" + dots, "https://" + dots + ":8443", "http://" + dots + ":80",
			"http://a/" + x, "http://a?" + x, "http://a#" + x, "http://" + x + "@a", "http://a:" + strings.Repeat("1", length), "http://a:" + strings.Repeat("0", length) + "8", strings.Repeat(" ", length), "http://a" + strings.Repeat(" ", length), strings.Repeat("/", length), "http:" + strings.Repeat("/", length) + "a", strings.Repeat("\x00", length), strings.Repeat("http://a", length/8),
		} {
			checkNoParse(t, s)
		}
	}
}

// ways returns texts that are close to those of origins.
func ways() []string {
	var out []string
	for _, scheme := range []string{"http", "https", "HTTP", "hTTps", "ftp", ""} {
		for _, mark := range []string{"://", ":", "//", ":/", ":///"} {
			for _, user := range []string{"", "@", "u@", "u:8@"} {
				for _, name := range []string{"", "a", "A", "a.b", "a.", "80", "null"} {
					for _, port := range []string{"", ":", ":0", ":1", ":80", ":080", ":443", ":0443", ":65535", ":65536", ":x"} {
						for _, rest := range []string{"", "/", "?", "#", " ", "/."} {
							out = append(out, scheme+mark+user+name+port+rest)
						}
					}
				}
			}
		}
	}
	return out
}

func TestParseEveryWay(t *testing.T) {
	counts := map[api.Errno]int{}
	for _, s := range ways() {
		counts[checkPlain(t, s)]++
	}
	// Of 2 schemes, 4 hosts and 4 ports (none, 1, 65535, the other scheme's).
	if counts[api.OK] != 32 {
		t.Errorf("%d texts are those of origins", counts[api.OK])
	}
}

func TestParseOfEveryByte(t *testing.T) {
	for _, s := range []string{"null", "http://a", "https://a", "http://a.b:443", "https://a-b:80", "http://a:8080"} {
		for c := range 256 {
			other := string([]byte{byte(c)})
			for place := range len(s) + 1 {
				checkPlain(t, s[:place]+other+s[place:])
				if place < len(s) {
					checkPlain(t, s[:place]+other+s[place+1:])
					checkPlain(t, s[:place]+s[place+1:])
				}
			}
		}
		if checkPlain(t, s) != api.OK {
			t.Errorf("%q is no Text", s)
		}
	}
}

// TestTextOfAll has all combinations of fields, valid and not.
func TestTextOfAll(t *testing.T) {
	ports := append([]int{1, 79, 80, 81, 442, 443, 444, 8080, 65534, 65535}, badPorts...)
	of := map[string]api.Origin{}
	for _, scheme := range append([]string{"http", "https"}, badSchemes...) {
		for _, name := range append(append([]string{}, goodHosts...), badHosts...) {
			for _, port := range ports {
				o := api.Origin{Scheme: scheme, Host: name, Port: port}
				if !plainGood(o) {
					checkNotValid(t, o)
					continue
				}
				s := plainText(o)
				if other, found := of[s]; found {
					t.Errorf("%q is the Text of %s and %s", s, show(o), show(other))
				}
				of[s] = o
				if o != (api.Origin{}) {
					checkValid(t, o, s)
				}
			}
		}
	}
	if want := 2*len(goodHosts)*10 + 1; len(of) != want {
		t.Errorf("%d of these origins are valid, want %d", len(of), want)
	}
}

// TestOfTexts has URLs that are written as an origin's Text.
func TestOfTexts(t *testing.T) {
	for _, s := range ways() {
		o, e := Parse(s)
		if e != api.OK {
			continue
		}
		for _, rest := range []string{"", "/", "/b", "?c", "#d", "/b?c#d"} {
			u, e := url.Parse(s + rest)
			if e != api.OK {
				t.Fatalf("%q is no URL", s+rest)
			}
			checkOf(t, u, o)
		}
	}
}

func TestSameKnown(t *testing.T) {
	for _, o := range []api.Origin{
		{Scheme: "http", Host: "a", Port: 80},
		{Scheme: "http", Host: "a", Port: 443},
		{Scheme: "https", Host: "a", Port: 80},
		{Scheme: "https", Host: "a", Port: 443},
		{Scheme: "https", Host: "a.example", Port: 8443},
	} {
		checkSame(t, o, o, true)
		equal := api.Origin{Scheme: strings.Clone(o.Scheme), Host: strings.Clone(o.Host), Port: o.Port}
		checkSame(t, o, equal, true)

		for _, scheme := range append([]string{"http", "https"}, badSchemes...) {
			checkSame(t, o, api.Origin{Scheme: scheme, Host: o.Host, Port: o.Port}, scheme == o.Scheme)
		}
		for _, name := range append([]string{"b", "a.b", "b.a", "aa", "example", "b.example", "a.example.b"}, badHosts...) {
			checkSame(t, o, api.Origin{Scheme: o.Scheme, Host: name, Port: o.Port}, false)
		}
		for _, port := range append([]int{1, 80, 443, 8080, 8443, 65535, o.Port + 1<<16, o.Port + 1<<32, -o.Port}, badPorts...) {
			checkSame(t, o, api.Origin{Scheme: o.Scheme, Host: o.Host, Port: port}, port == o.Port)
		}
		checkSame(t, o, api.Origin{}, false)
	}
}

// TestSameOfAll compares every two of a few origins, valid, opaque and not
// valid.
func TestSameOfAll(t *testing.T) {
	var all []api.Origin
	for _, scheme := range []string{"http", "https", "HTTP", "ftp", ""} {
		for _, name := range []string{"a", "b", "A", "a.", ""} {
			for _, port := range []int{0, 1, 80, 443, 65535, 65536, -1} {
				all = append(all, api.Origin{Scheme: scheme, Host: name, Port: port})
			}
		}
	}
	many := 0
	for i, a := range all {
		for j, b := range all {
			want := i == j && a != (api.Origin{}) && plainGood(a)
			checkSame(t, a, b, want)
			if want {
				many++
			}
		}
	}
	if many != 2*2*4 {
		t.Errorf("%d origins are the same as themselves", many)
	}
}

func TestSameOfNotValid(t *testing.T) {
	for _, a := range []api.Origin{{Scheme: "http"}, {Host: "a"}, {Port: 80}, {Scheme: "http", Host: "a"}, {Scheme: "HTTP", Host: "a", Port: 80}, {Scheme: "http", Host: "A", Port: 80}, {Scheme: "http", Host: "a", Port: 65536}, {Scheme: "http", Host: "a", Port: -1}, {Scheme: "ftp", Host: "a", Port: 21}} {
		b := api.Origin{Scheme: strings.Clone(a.Scheme), Host: strings.Clone(a.Host), Port: a.Port}
		checkSame(t, a, b, false)
		checkSame(t, a, api.Origin{}, false)
		checkSame(t, a, api.Origin{Scheme: "http", Host: "a", Port: 80}, false)
	}
}

func TestRandom(t *testing.T) {
	r := rand.New(rand.NewSource(9))
	pieces := []string{"http://", "https://", "http", "s", "://", "a", "a.b", ".", "-", ":", ":80", ":443", ":8080", "0", "1", "@", "/", "?", "#", "A", " ", "null"}
	counts := map[api.Errno]int{}
	for range 100000 {
		s := ""
		if r.Intn(2) == 0 {
			s = pieces[r.Intn(2)] + "a"
		}
		for range r.Intn(5) {
			s += pieces[r.Intn(len(pieces))]
		}
		counts[checkPlain(t, s)]++
	}
	if counts[api.OK] < 10000 || counts[api.ErrText] < 10000 {
		t.Errorf("of the results %v one kind is hardly tested", counts)
	}
}

func TestNothingIsKept(t *testing.T) {
	for range 3 {
		checkValid(t, api.Origin{Scheme: "http", Host: "a", Port: 8080}, "http://a:8080")
		checkNotValid(t, api.Origin{Scheme: "http", Host: "a"})
		checkNoParse(t, "http://a:80")
		checkOf(t, api.URL{Scheme: "https", Host: "a", Path: "/"}, api.Origin{Scheme: "https", Host: "a", Port: 443})
		checkOf(t, api.URL{Scheme: "https", Host: "a"}, api.Origin{})
		checkSame(t, api.Origin{}, api.Origin{}, false)
	}
}

func FuzzOrigin(f *testing.F) {
	f.Add("http://a:8080", "http", "a", 8080)
	f.Add("null", "", "", 0)
	f.Add("https://a.example", "https", "a.example", 443)
	f.Add("HTTP://u@A:080/b?c#d", "https", "A", 65536)
	f.Fuzz(func(t *testing.T, s, scheme, name string, port int) {
		checkPlain(t, s)
		o := api.Origin{Scheme: scheme, Host: name, Port: port}
		switch {
		case o == api.Origin{}:
		case plainGood(o):
			checkValid(t, o, plainText(o))
		default:
			checkNotValid(t, o)
		}
		if u, e := url.Parse(s); e == api.OK {
			checkOf(t, u, api.Origin{Scheme: u.Scheme, Host: u.Host, Port: url.Port(u)})
		} else {
			checkOf(t, u, api.Origin{})
		}
	})
}
