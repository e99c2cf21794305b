package url

import (
	"math"
	"math/rand"
	"regexp"
	"slices"
	"strconv"
	"strings"
	"testing"

	"pursuivant/api"
)

func text(c int) string {
	return string([]byte{byte(c)})
}

// words puts together up to so many pieces in every order.
func words(pieces []string, most int) []string {
	all, last := []string{""}, []string{""}
	for range most {
		var longer []string
		for _, before := range last {
			for _, piece := range pieces {
				longer = append(longer, before+piece)
			}
		}
		all, last = append(all, longer...), longer
	}
	return all
}

// inEveryCase returns s with its letters in every combination of cases.
func inEveryCase(s string) []string {
	all := []string{""}
	for i := range len(s) {
		var longer []string
		for _, before := range all {
			longer = append(longer, before+s[i:i+1])
			if s[i] >= 97 && s[i] <= 122 {
				longer = append(longer, before+text(int(s[i])-32))
			}
		}
		all = longer
	}
	return all
}

// What the chapter allows in each part, byte by byte.
var (
	userForm  = regexp.MustCompile(`\A[!$%&'()*+,\-.0-9:;=A-Z\[\]_a-z~]*\z`)
	pathForm  = regexp.MustCompile(`\A/[!$%&'()*+,\-.0-9:;=A-Z\[\]_a-z~/@]*\z`)
	queryForm = regexp.MustCompile(`\A[!$%&'()*+,\-.0-9:;=A-Z\[\]_a-z~/@?]*\z`)
	fragForm  = regexp.MustCompile(`\A[!$%&'()*+,\-.0-9:;=A-Z\[\]_a-z~/@?#]*\z`)
	hostForm  = regexp.MustCompile(`\A[a-z0-9]([a-z0-9-]{0,61}[a-z0-9])?(\.[a-z0-9]([a-z0-9-]{0,61}[a-z0-9])?)*\z`)
	portForm  = regexp.MustCompile(`\A[1-9][0-9]{0,4}\z`)

	// [^..] also stands for a byte that is no UTF-8.
	wholeForm     = regexp.MustCompile(`(?s)\A([hH][tT][tT][pP][sS]?)://([^/?#]*)([^?#]*)(\?[^#]*)?(#.*)?\z`)
	authorityForm = regexp.MustCompile(`(?s)\A(?:(.+)@)?([^@:]*)(:[^@]*)?\z`)
)

func plainDefault(scheme string) int {
	return map[string]int{"http": 80, "https": 443}[scheme]
}

// plainSize counts the bytes of the text without User and @.
func plainSize(u api.URL) int {
	n := len(u.Scheme) + 3 + len(u.Host) + len(u.Path)
	if u.Port != 0 {
		n += 1 + len(strconv.Itoa(u.Port))
	}
	if u.HasQuery {
		n += 1 + len(u.Query)
	}
	if u.HasFrag {
		n += 1 + len(u.Frag)
	}
	return n
}

// plainGood follows the chapter's words by regular expressions.
func plainGood(u api.URL) bool {
	switch {
	case u.Scheme != "http" && u.Scheme != "https":
	case !userForm.MatchString(u.User), len(u.User) > 128:
	case !hostForm.MatchString(u.Host), len(u.Host) > 253:
	case u.Port < 0, u.Port > 65535, u.Port == plainDefault(u.Scheme):
	case !pathForm.MatchString(u.Path):
	case !queryForm.MatchString(u.Query), !u.HasQuery && u.Query != "":
	case !fragForm.MatchString(u.Frag), !u.HasFrag && u.Frag != "":
	case plainSize(u) > 1024:
	default:
		return true
	}
	return false
}

// plainText joins a list of parts, some of them empty.
func plainText(u api.URL) string {
	var user, port, query, frag string
	if u.User != "" {
		user = u.User + "@"
	}
	if u.Port != 0 {
		port = ":" + strconv.Itoa(u.Port)
	}
	if u.HasQuery {
		query = "?" + u.Query
	}
	if u.HasFrag {
		frag = "#" + u.Frag
	}
	return strings.Join([]string{u.Scheme, "://", user, u.Host, port, u.Path, query, frag}, "")
}

// lowered replaces one letter after the other.
func lowered(s string) string {
	for c := range 26 {
		s = strings.ReplaceAll(s, text(65+c), text(97+c))
	}
	return s
}

// plainParse takes s apart by regular expressions.
func plainParse(s string) (api.URL, api.Errno) {
	if len(s) > 1161 {
		return api.URL{}, api.ErrOver
	}
	whole := wholeForm.FindStringSubmatch(s)
	if whole == nil {
		return api.URL{}, api.ErrText
	}
	authority := authorityForm.FindStringSubmatch(whole[2])
	if authority == nil {
		return api.URL{}, api.ErrText
	}
	u := api.URL{Scheme: lowered(whole[1]), User: authority[1], Host: lowered(authority[2]), Path: whole[3]}
	if digits, found := strings.CutPrefix(authority[3], ":"); found {
		if !portForm.MatchString(digits) {
			return api.URL{}, api.ErrText
		}
		u.Port, _ = strconv.Atoi(digits)
	}
	if u.Port == plainDefault(u.Scheme) {
		u.Port = 0
	}
	if u.Path == "" {
		u.Path = "/"
	}
	u.Query, u.HasQuery = strings.CutPrefix(whole[4], "?")
	u.Frag, u.HasFrag = strings.CutPrefix(whole[5], "#")
	if !plainGood(u) {
		return api.URL{}, api.ErrText
	}
	return u, api.OK
}

func checkGood(t *testing.T, u api.URL, want bool) {
	t.Helper()
	if got := Good(u); got != want {
		t.Errorf("Good(%.200q) = %v, want %v", plainText(u), got, want)
	}
	wantText := ""
	if want {
		wantText = plainText(u)
	}
	if got := Text(u); got != wantText {
		t.Errorf("Text of %.200q = %.200q, want %.200q", plainText(u), got, wantText)
	}
}

func checkParse(t *testing.T, s string, want api.URL) {
	t.Helper()
	if u, e := Parse(s); u != want || e != api.OK {
		t.Errorf("Parse(%.200q) = %.200q, %d, want %.200q, OK", s, plainText(u), e, plainText(want))
	}
}

func checkNoParse(t *testing.T, s string, want api.Errno) {
	t.Helper()
	if u, e := Parse(s); u != (api.URL{}) || e != want {
		t.Errorf("Parse(%.200q) = %.200q, %d, want the zero URL, %d", s, plainText(u), e, want)
	}
}

func checkPlain(t *testing.T, s string) {
	t.Helper()
	want, e := plainParse(s)
	if e == api.OK {
		checkParse(t, s, want)
	} else {
		checkNoParse(t, s, e)
	}
}

// small returns the shortest valid URL of a scheme.
func small(scheme string) api.URL {
	return api.URL{Scheme: scheme, Host: "a", Path: "/"}
}

// full returns a valid URL with all parts.
func full() api.URL {
	return api.URL{Scheme: "https", User: "me:pw", Host: "a.example", Port: 8443, Path: "/b/c", HasQuery: true, Query: "d=e", HasFrag: true, Frag: "f"}
}

// shapes returns valid URLs with each part there and not there.
func shapes() []api.URL {
	var out []api.URL
	for _, scheme := range []string{"http", "https"} {
		for _, user := range []string{"", "me", "me:pw"} {
			for _, port := range []int{0, 8080} {
				for _, path := range []string{"/", "/b/c"} {
					for _, query := range []string{"-", "", "d=e", "?"} {
						for _, frag := range []string{"-", "", "f", "?#"} {
							u := api.URL{Scheme: scheme, User: user, Host: "a.example", Port: port, Path: path}
							if query != "-" {
								u.HasQuery, u.Query = true, query
							}
							if frag != "-" {
								u.HasFrag, u.Frag = true, frag
							}
							out = append(out, u)
						}
					}
				}
			}
		}
	}
	return out
}

func TestGoodKnown(t *testing.T) {
	checkGood(t, small("http"), true)
	checkGood(t, small("https"), true)
	checkGood(t, full(), true)
	checkGood(t, api.URL{}, false)
	for _, u := range shapes() {
		checkGood(t, u, true)
	}
}

// TestGoodNeedsEveryPart takes a part from URLs that are valid with it.
func TestGoodNeedsEveryPart(t *testing.T) {
	for _, u := range shapes() {
		for _, change := range []func(*api.URL){
			func(u *api.URL) { u.Scheme = "" },
			func(u *api.URL) { u.Host = "" },
			func(u *api.URL) { u.Path = "" },
		} {
			other := u
			change(&other)
			checkGood(t, other, false)
		}
		for _, change := range []func(*api.URL){
			func(u *api.URL) { u.User = "" },
			func(u *api.URL) { u.Port = 0 },
			func(u *api.URL) { u.HasQuery, u.Query = false, "" },
			func(u *api.URL) { u.HasFrag, u.Frag = false, "" },
		} {
			other := u
			change(&other)
			checkGood(t, other, true)
		}
	}
}

func TestGoodOfEveryByte(t *testing.T) {
	const never = "\"<>\\^`{|}"
	for c := range 256 {
		s := text(c)
		seen := c >= 33 && c <= 126 && !strings.Contains(never, s)
		for _, within := range []string{s, s + "x", "x" + s, "x" + s + "y", strings.Repeat(s, 3), "%41" + s} {
			u := small("http")
			u.User = within
			checkGood(t, u, seen && !strings.Contains("/?#@", s))
			u = small("http")
			u.Path = "/" + within
			checkGood(t, u, seen && !strings.Contains("?#", s))
			u = small("http")
			u.HasQuery, u.Query = true, within
			checkGood(t, u, seen && s != "#")
			u = small("http")
			u.HasFrag, u.Frag = true, within
			checkGood(t, u, seen)
		}
	}
}

// TestGoodOfEveryByteBesides has all other parts there, so that no byte counts
// for another part than its own.
func TestGoodOfEveryByteBesides(t *testing.T) {
	for c := range 256 {
		for _, change := range []func(*api.URL){
			func(u *api.URL) { u.User += text(c) },
			func(u *api.URL) { u.Path += text(c) },
			func(u *api.URL) { u.Query += text(c) },
			func(u *api.URL) { u.Frag += text(c) },
			func(u *api.URL) { u.Host += text(c) },
			func(u *api.URL) { u.Scheme += text(c) },
		} {
			u := full()
			change(&u)
			checkGood(t, u, plainGood(u))
		}
	}
}

func TestGoodAtEveryPlace(t *testing.T) {
	for place := range 40 {
		for _, wrong := range []string{"\"", "<", ">", "\\", "^", "`", "{", "|", "}", " ", "\x00", "\x1F", "\x7F", "\x80", "\xFF", "\u00E9"} {
			s := strings.Repeat("x", place) + wrong + strings.Repeat("x", 39-place)
			for _, u := range []api.URL{
				{Scheme: "http", User: s, Host: "a", Path: "/"},
				{Scheme: "http", Host: "a", Path: "/" + s},
				{Scheme: "http", Host: "a", Path: "/", HasQuery: true, Query: s},
				{Scheme: "http", Host: "a", Path: "/", HasFrag: true, Frag: s},
			} {
				checkGood(t, u, false)
			}
		}
	}
}

func TestGoodOfPaths(t *testing.T) {
	for _, path := range []string{"/", "//", "///", "/.", "/..", "/../x", "/./", "/a/b", "/%41", "/%zz", "/%", "/@", "/:", "/a:b@c", "/;x=1,2", "/[]", "/!$&'()*+,;=~"} {
		u := small("https")
		u.Path = path
		checkGood(t, u, true)
	}
	for _, path := range []string{"", "a", "x/", "a/b", ".", "..", "./", "@/", "%2F", "\\", ":80/", "?", "#", "?/", "#/", " /", "/ ", "/?", "/#", "/a?b", "/a#b"} {
		u := small("https")
		u.Path = path
		checkGood(t, u, false)
	}
	for c := range 256 { // before a / or alone
		for _, path := range []string{text(c), text(c) + "/", text(c) + "x"} {
			u := small("http")
			u.Path = path
			checkGood(t, u, c == 47)
		}
	}
}

func TestGoodOfQueriesAndFrags(t *testing.T) {
	for _, s := range []string{"x", "?", "/", "a=b&c=d", "%", strings.Repeat("x", 500)} {
		for _, scheme := range []string{"http", "https"} {
			u := small(scheme)
			u.Query = s
			checkGood(t, u, false)
			u.HasFrag, u.Frag = true, s // does not stand in for HasQuery
			checkGood(t, u, false)
			u.HasQuery = true
			checkGood(t, u, true)
			u.HasFrag = false
			checkGood(t, u, false)
			u.Query = ""
			checkGood(t, u, false)
			u.Frag = ""
			checkGood(t, u, true)
			u.HasQuery = false
			checkGood(t, u, true)
			u.HasFrag = true
			checkGood(t, u, true)
		}
	}
}

func TestGoodOfPorts(t *testing.T) {
	for _, scheme := range []string{"http", "https"} {
		for _, port := range []int{math.MinInt, math.MinInt + 1, math.MinInt32, -65536, -65535, -443, -80, -1, 65536, 65537, 65616, 65979, 1 << 17, math.MaxInt32, 1<<32 + 1, math.MaxInt - 1, math.MaxInt} {
			u := small(scheme)
			u.Port = port
			checkGood(t, u, false)
		}
		for _, port := range []int{0, 1, 2, 79, 81, 442, 444, 8080, 65534, 65535} {
			u := small(scheme)
			u.Port = port
			checkGood(t, u, true)
		}
		for port := range 65536 {
			u := small(scheme)
			u.Port = port
			checkGood(t, u, port == 0 || port != map[string]int{"http": 80, "https": 443}[scheme])
		}
	}
}

func TestGoodOfSchemes(t *testing.T) {
	for _, scheme := range []string{"", "h", "ht", "htt", "httpss", "httpx", "xhttp", "http ", " http", "http:", "https:", "http://", "http\x00", "ftp", "ws", "wss", "file", "data", "blob", "about", "80", "\u0127ttp", "http\u017F", "\xFF"} {
		for _, port := range []int{0, 1, 80, 443, 8080} {
			u := small(scheme)
			u.Port = port
			checkGood(t, u, false)
		}
	}
	for _, valid := range []string{"http", "https"} {
		for _, scheme := range inEveryCase(valid) {
			checkGood(t, small(scheme), scheme == valid)
			u := full()
			u.Scheme = scheme
			checkGood(t, u, scheme == valid)
		}
	}
}

func TestGoodOfHosts(t *testing.T) {
	part := strings.Repeat("x", 63)
	for _, name := range []string{"a", "0", "a.b", "a-b", "1.2.3.4", "xn--a.example", part, part + "." + part + "." + part + "." + part[:61]} {
		u := full()
		u.Host = name
		checkGood(t, u, true)
	}
	for _, name := range []string{"", ".", "a.", ".a", "a..b", "-a", "a-", "a.-b", "A", "Example", "a.B", "a_b", "a b", "a@b", "a:80", "a/", "a?", "a#", "*", "*.a", "[::1]", "%61", "\u00E9", "\xFF", "a\x00", part + "x", part + "." + part + "." + part + "." + part[:62]} {
		for _, u := range []api.URL{small("http"), small("https"), full()} {
			u.Host = name
			checkGood(t, u, false)
		}
	}
}

func TestGoodLengthOfUser(t *testing.T) {
	for _, length := range []int{0, 1, 2, 127, 128, 129, 130, 255, 256, 257, 384, 1000, 1024, 1025, 65536, 65537, 1 << 20} {
		for _, u := range []api.URL{small("http"), small("https"), full()} {
			u.User = strings.Repeat("u", length)
			checkGood(t, u, length <= 128)
			u.User = strings.Repeat(":", length)
			checkGood(t, u, length <= 128)
		}
	}
}

// ofSize returns u with one of its parts extended until its text, without User
// and @, has so many bytes.
func ofSize(u api.URL, size int, part func(*api.URL) *string) api.URL {
	s := part(&u)
	*s += strings.Repeat("x", size-plainSize(u))
	return u
}

func TestGoodLengthOfAll(t *testing.T) {
	parts := map[string]func(*api.URL) *string{
		"path":  func(u *api.URL) *string { return &u.Path },
		"query": func(u *api.URL) *string { u.HasQuery = true; return &u.Query },
		"frag":  func(u *api.URL) *string { u.HasFrag = true; return &u.Frag },
	}
	for _, u := range shapes() {
		for _, size := range []int{255, 256, 257, 1000, 1023, 1024, 1025, 1026, 1152, 1153, 1161, 1162, 1280, 2048} {
			for name, part := range parts {
				for _, user := range []string{"", "u", strings.Repeat("u", 128), strings.Repeat("u", 129)} {
					u.User = user
					long := ofSize(u, size, part)
					if plainSize(long) != size {
						t.Fatalf("%s: %d bytes, want %d", name, plainSize(long), size)
					}
					checkGood(t, long, size <= 1024 && len(user) <= 128)
				}
			}
		}
	}
	for name, part := range parts {
		long := ofSize(small("http"), 1<<16+20, part) // would fit if counted in two bytes
		if Good(long) || Text(long) != "" {
			t.Errorf("a URL with a long %s is valid", name)
		}
	}
}

func TestGoodLengthWithPorts(t *testing.T) {
	for _, scheme := range []string{"http", "https"} {
		for _, port := range []int{0, 1, 9, 10, 99, 100, 999, 1000, 9999, 10000, 65535} {
			for _, name := range []string{"a", "a.example", strings.Repeat("a.", 126) + "a"} {
				u := api.URL{Scheme: scheme, Host: name, Port: port, Path: "/"}
				for size := 1015; size <= 1035; size++ {
					checkGood(t, ofSize(u, size, func(u *api.URL) *string { return &u.Path }), size <= 1024)
				}
			}
		}
	}
}

func TestText(t *testing.T) {
	cases := []struct {
		u    api.URL
		want string
	}{
		{api.URL{Scheme: "http", Host: "a", Path: "/"}, "http://a/"},
		{api.URL{Scheme: "https", Host: "a", Path: "/"}, "https://a/"},
		{api.URL{Scheme: "http", User: "u", Host: "a", Path: "/"}, "http://u@a/"},
		{api.URL{Scheme: "http", User: "u:p", Host: "a", Path: "/"}, "http://u:p@a/"},
		{api.URL{Scheme: "http", Host: "a", Port: 1, Path: "/"}, "http://a:1/"},
		{api.URL{Scheme: "http", Host: "a", Port: 443, Path: "/"}, "http://a:443/"},
		{api.URL{Scheme: "https", Host: "a", Port: 80, Path: "/"}, "https://a:80/"},
		{api.URL{Scheme: "https", Host: "a", Port: 65535, Path: "/"}, "https://a:65535/"},
		{api.URL{Scheme: "http", Host: "a.b", Path: "/c/../%64"}, "http://a.b/c/../%64"},
		{api.URL{Scheme: "http", Host: "a", Path: "/", HasQuery: true}, "http://a/?"},
		{api.URL{Scheme: "http", Host: "a", Path: "/", HasQuery: true, Query: "x"}, "http://a/?x"},
		{api.URL{Scheme: "http", Host: "a", Path: "/", HasQuery: true, Query: "?"}, "http://a/??"},
		{api.URL{Scheme: "http", Host: "a", Path: "/", HasFrag: true}, "http://a/#"},
		{api.URL{Scheme: "http", Host: "a", Path: "/", HasFrag: true, Frag: "x"}, "http://a/#x"},
		{api.URL{Scheme: "http", Host: "a", Path: "/", HasFrag: true, Frag: "#?"}, "http://a/##?"},
		{api.URL{Scheme: "http", Host: "a", Path: "/", HasQuery: true, HasFrag: true}, "http://a/?#"},
		{api.URL{Scheme: "http", Host: "a", Path: "/", HasQuery: true, Query: "x", HasFrag: true}, "http://a/?x#"},
		{api.URL{Scheme: "http", Host: "a", Path: "/", HasQuery: true, HasFrag: true, Frag: "y"}, "http://a/?#y"},
		{full(), "https://me:pw@a.example:8443/b/c?d=e#f"},

		{api.URL{}, ""}, // not valid
		{api.URL{Scheme: "http"}, ""},
		{api.URL{Scheme: "http", Host: "a"}, ""},
		{api.URL{Host: "a", Path: "/"}, ""},
		{api.URL{Scheme: "http", Path: "/"}, ""},
		{api.URL{Scheme: "HTTP", Host: "a", Path: "/"}, ""},
		{api.URL{Scheme: "http", Host: "A", Path: "/"}, ""},
		{api.URL{Scheme: "http", Host: "a", Port: 80, Path: "/"}, ""},
		{api.URL{Scheme: "http", Host: "a", Port: -1, Path: "/"}, ""},
		{api.URL{Scheme: "http", User: "@", Host: "a", Path: "/"}, ""},
		{api.URL{Scheme: "http", Host: "a", Path: "/", Query: "x"}, ""},
		{api.URL{Scheme: "http", Host: "a", Path: "/", Frag: "x"}, ""},
	}
	for _, c := range cases {
		if got := Text(c.u); got != c.want {
			t.Errorf("Text(%+v) = %q, want %q", c.u, got, c.want)
		}
	}
}

func TestPort(t *testing.T) {
	for scheme, want := range map[string]int{"http": 80, "https": 443, "": 0, "HTTP": 0, "Https": 0, "ftp": 0, "http:": 0, "httpss": 0, "\xFF": 0} {
		if got := Port(api.URL{Scheme: scheme}); got != want {
			t.Errorf("Port of the scheme %q = %d, want %d", scheme, got, want)
		}
		for _, port := range []int{1, 79, 80, 81, 443, 444, 8080, 65535, 65536, -1, -7, math.MinInt, math.MaxInt} { // valid or not
			if got := Port(api.URL{Scheme: scheme, Port: port}); got != port {
				t.Errorf("Port of the scheme %q with %d = %d", scheme, port, got)
			}
		}
	}
	for _, u := range shapes() {
		want := u.Port
		if want == 0 {
			want = plainDefault(u.Scheme)
		}
		if got := Port(u); got != want {
			t.Errorf("Port(%q) = %d, want %d", plainText(u), got, want)
		}
	}
}

func TestParseKnown(t *testing.T) {
	for s, want := range map[string]api.URL{
		"HTTP://A.example:80?x":     {Scheme: "http", Host: "a.example", Path: "/", HasQuery: true, Query: "x"}, // of the chapter
		"http://a":                  {Scheme: "http", Host: "a", Path: "/"},
		"http://a/":                 {Scheme: "http", Host: "a", Path: "/"},
		"https://a//":               {Scheme: "https", Host: "a", Path: "//"},
		"http://a/b/../c":           {Scheme: "http", Host: "a", Path: "/b/../c"},
		"http://a/%7e%7E~":          {Scheme: "http", Host: "a", Path: "/%7e%7E~"},
		"http://a/http://b":         {Scheme: "http", Host: "a", Path: "/http://b"},
		"http://a?http://b":         {Scheme: "http", Host: "a", Path: "/", HasQuery: true, Query: "http://b"},
		"http://a#http://b":         {Scheme: "http", Host: "a", Path: "/", HasFrag: true, Frag: "http://b"},
		"http://a/B?C#D":            {Scheme: "http", Host: "a", Path: "/B", HasQuery: true, Query: "C", HasFrag: true, Frag: "D"},
		"http://U:P@A/":             {Scheme: "http", User: "U:P", Host: "a", Path: "/"},
		"http://u@a":                {Scheme: "http", User: "u", Host: "a", Path: "/"},
		"http://:@a":                {Scheme: "http", User: ":", Host: "a", Path: "/"},
		"http://u:@a:1":             {Scheme: "http", User: "u:", Host: "a", Port: 1, Path: "/"},
		"http://:80@a":              {Scheme: "http", User: ":80", Host: "a", Path: "/"},
		"http://a:80@b:81":          {Scheme: "http", User: "a:80", Host: "b", Port: 81, Path: "/"},
		"http://u:p:q@a:65535/":     {Scheme: "http", User: "u:p:q", Host: "a", Port: 65535, Path: "/"},
		"http://u/@a@b:c@":          {Scheme: "http", Host: "u", Path: "/@a@b:c@"},
		"http://a/b@c":              {Scheme: "http", Host: "a", Path: "/b@c"},
		"http://a?b@c":              {Scheme: "http", Host: "a", Path: "/", HasQuery: true, Query: "b@c"},
		"http://a#b@c":              {Scheme: "http", Host: "a", Path: "/", HasFrag: true, Frag: "b@c"},
		"http://a/:1":               {Scheme: "http", Host: "a", Path: "/:1"},
		"http://a?:":                {Scheme: "http", Host: "a", Path: "/", HasQuery: true, Query: ":"},
		"http://a#:":                {Scheme: "http", Host: "a", Path: "/", HasFrag: true, Frag: ":"},
		"http://a:81?b":             {Scheme: "http", Host: "a", Port: 81, Path: "/", HasQuery: true, Query: "b"},
		"http://a:81#b":             {Scheme: "http", Host: "a", Port: 81, Path: "/", HasFrag: true, Frag: "b"},
		"http://a?b/c":              {Scheme: "http", Host: "a", Path: "/", HasQuery: true, Query: "b/c"},
		"http://a#b/c?d":            {Scheme: "http", Host: "a", Path: "/", HasFrag: true, Frag: "b/c?d"},
		"http://1.2.3.4:5":          {Scheme: "http", Host: "1.2.3.4", Port: 5, Path: "/"},
		"hTTps://me@A.B:444/?Q?#F#": {Scheme: "https", User: "me", Host: "a.b", Port: 444, Path: "/", HasQuery: true, Query: "Q?", HasFrag: true, Frag: "F#"},
	} {
		checkParse(t, s, want)
	}
}

func TestParseNoURL(t *testing.T) {
	for _, s := range []string{
		"", " ", ":", "/", "//", "://", "http", "https", "http:", "http:/", "http://", "https://", "http:a", "http:/a", "http//a", "http:\\\\a", "//a", "/a", "a", "a.example", "://a", "http: //a", "http ://a", "http:///", "http:///a", "http://?", "http://#", "http://?a", "http://#a",
		" http://a", "http://a ", "\thttp://a", "http://a\n", "http://a\x00", "xhttp://a", "httpx://a", "httpss://a", "htt://a", "h://a", "ftp://a", "ws://a", "wss://a", "file:///a", "data:a", "blob:http://a", "about:blank", "http\u017F://a", "\u0127ttp://a", "http?://a", "http#://a", "http/://a", "http@://a",
		"http://@a", "http://@", "http://@@a", "http://@a@b", "http://a@b@c", "http://a@@b", "http://a@b@", "http://u@", "http://u@/", "http://u@:1", "http://u:p@", "http://u@a@b/c", "http://u p@a", "http://u\"@a", "http://u\\@a", "http://u\xFF@a", "http://u@@a",
		"http://:", "http://:80", "http://:@", "http://a:", "https://a:", "http://a:/", "http://a:?", "http://a:#", "http://u@a:", "http://a:0", "http://a:00", "http://a:01", "http://a:080", "http://a:00080", "https://a:0443", "http://a:65536", "http://a:99999", "http://a:100000", "http://a:18446744073709551697", "http://a:-1", "http://a:+1", "http://a: 1", "http://a:1 ", "http://a:1x", "http://a:x", "http://a:0x50", "http://a:1:2", "http://a::1", "http://a:1:", "http://a:\u0661", "http://u@a:080",
		"http://.", "http://a.", "http://.a", "http://a..b", "http://-a", "http://a-", "http://a_b", "http://a b", "http://a%62", "http://[::1]", "http://[::1]:80", "http://*.a", "http://\u00E9", "http://\u212A", "http://a\xFF", "http://a\\b", "http://a,b", "http://" + strings.Repeat("a", 64),
		"http://a/ ", "http://a/\"", "http://a/<", "http://a/>", "http://a/\\", "http://a/^", "http://a/`", "http://a/{", "http://a/|", "http://a/}", "http://a/\x7F", "http://a/\x80", "http://a/\u00E9", "http://a/\x1F", "http://a/\x00",
		"http://a? ", "http://a?\"", "http://a?|", "http://a?\u00E9", "http://a?\xFF", "http://a# ", "http://a#`", "http://a#}", "http://a#\u00E9", "http://a#\x00",
	} {
		checkNoParse(t, s, api.ErrText)
	}
}

func TestParseInAnyCase(t *testing.T) {
	for _, scheme := range inEveryCase("http") {
		checkParse(t, scheme+"://a:80", small("http"))
		checkParse(t, scheme+"://a:443", api.URL{Scheme: "http", Host: "a", Port: 443, Path: "/"})
	}
	for _, scheme := range inEveryCase("https") {
		checkParse(t, scheme+"://a:443", small("https"))
		checkParse(t, scheme+"://a:80", api.URL{Scheme: "https", Host: "a", Port: 80, Path: "/"})
	}
	for _, name := range inEveryCase("a1-z.exam.q") {
		checkParse(t, "http://U@"+name+":7/P?Q#F", api.URL{Scheme: "http", User: "U", Host: "a1-z.exam.q", Port: 7, Path: "/P", HasQuery: true, Query: "Q", HasFrag: true, Frag: "F"})
	}
	for c := range 26 {
		checkParse(t, "https://"+text(65+c), api.URL{Scheme: "https", Host: text(97 + c), Path: "/"})
	}
}

func TestParseOfEveryByte(t *testing.T) {
	for c := range 256 {
		for _, around := range [][2]string{
			{"", ""}, {"", "http://a"}, {"http", "://a"}, {"https", "://a"}, {"http:", "//a"}, {"http:/", "/a"}, {"http://", ""}, {"http://", "a"}, {"http://a", ""}, {"http://a", "b"}, {"http://a", "/"}, {"http://a", "@b"}, {"http://", "@b"}, {"http://a@", "b"}, {"http://a@b", ""}, {"http://a", "81"}, {"http://a:", ""}, {"http://a:8", ""}, {"http://a:", "8"}, {"http://a:8", "8/x"}, {"http://a/", ""}, {"http://a/", "x"}, {"http://a/x", "?y#z"}, {"http://a?", ""}, {"http://a?", "x"}, {"http://a?x", "#y"}, {"http://a#", ""}, {"http://a#", "x"}, {"http://a#x", "y"},
		} {
			checkPlain(t, around[0]+text(c)+around[1])
		}
		for place := range len("http://a/") {
			checkPlain(t, "http://a/"[:place]+text(c)+"http://a/"[place+1:])
		}
	}
}

func TestParseUsers(t *testing.T) {
	for c := range 256 {
		s := text(c)
		for _, user := range []string{s, s + "u", "u" + s, "u" + s + "u", s + ":" + s} {
			switch {
			case userForm.MatchString(s):
				checkParse(t, "http://"+user+"@a:81/x", api.URL{Scheme: "http", User: user, Host: "a", Port: 81, Path: "/x"})
			case strings.Contains("/?#", s): // ends the authority, so the @ belongs to another part
				checkPlain(t, "http://"+user+"@a:81/x")
			default:
				checkNoParse(t, "http://"+user+"@a:81/x", api.ErrText)
			}
		}
	}
	for length := range 1000 {
		user := strings.Repeat("u", length)
		if length >= 1 && length <= 128 {
			checkParse(t, "http://"+user+"@a", api.URL{Scheme: "http", User: user, Host: "a", Path: "/"})
		} else {
			checkNoParse(t, "http://"+user+"@a", api.ErrText)
		}
	}
	for many := 2; many < 6; many++ {
		for _, user := range []string{"", "u", "u:p"} {
			checkNoParse(t, "http://"+strings.Repeat(user+"@", many)+"a", api.ErrText)
		}
	}
}

func TestParsePorts(t *testing.T) {
	for port := range 66000 {
		digits := strconv.Itoa(port)
		want := port
		if port == 80 {
			want = 0
		}
		if port < 1 || port > 65535 {
			checkNoParse(t, "http://a:"+digits, api.ErrText)
			continue
		}
		checkParse(t, "http://a:"+digits, api.URL{Scheme: "http", Host: "a", Port: want, Path: "/"})
		for _, zeros := range []string{"0", "00", "00000"} {
			checkNoParse(t, "http://a:"+zeros+digits, api.ErrText)
		}
	}
	for _, rest := range []string{"", "/", "?", "#"} {
		checkParse(t, "https://u@a:443"+rest, mustPlain(t, "https://u@a"+rest))
		checkParse(t, "http://u@a:80"+rest, mustPlain(t, "http://u@a"+rest))
	}
}

func mustPlain(t *testing.T, s string) api.URL {
	t.Helper()
	u, e := plainParse(s)
	if e != api.OK {
		t.Fatalf("%q is no URL", s)
	}
	return u
}

// TestParseEveryOrder has the marks between the parts in every order and place.
func TestParseEveryOrder(t *testing.T) {
	valid := 0
	for _, rest := range words([]string{"/", "?", "#", "@", ":", "a", "8"}, 5) {
		s := "http://" + rest
		checkPlain(t, s)
		checkPlain(t, "https://b"+rest)
		if _, e := Parse(s); e == api.OK {
			valid++
		}
	}
	for _, rest := range words([]string{"/", "?", "#", "x"}, 7) {
		checkPlain(t, "HTTPS://u@A:8"+rest)
	}
	for _, s := range words([]string{"http", "s", "S", ":", "/", "//", "://", "a"}, 5) {
		checkPlain(t, s)
	}
	if valid < 1000 {
		t.Errorf("only %d of the texts are valid", valid)
	}
}

func TestParseLengthOfAll(t *testing.T) {
	for length := 1000; length <= 1200; length++ {
		for _, start := range []string{"http://a/", "https://a/", "http://a?", "http://a#", "http://a:80/", "https://a:443/", "https://a:8443/", "HTTP://u@A/", "http://" + strings.Repeat("u", 128) + "@a/", "https://" + strings.Repeat("u", 128) + "@a:443/", "https://" + strings.Repeat("u", 128) + "@a:443?", "http://" + strings.Repeat("u", 129) + "@a/", "ftp://a/", "http://", "\xFF"} {
			s := start + strings.Repeat("x", length-len(start))
			checkPlain(t, s)
			if length > 1161 {
				checkNoParse(t, s, api.ErrOver)
			}
		}
		want := api.ErrText
		if length > 1161 {
			want = api.ErrOver
		}
		for _, s := range []string{" ", "\x00", "\xFF", "/", ":", "@", "?", "#", "h"} {
			checkNoParse(t, strings.Repeat(s, length), want)
		}
	}
	for _, length := range []int{1161, 1162} {
		s := "http://" + strings.Repeat("x", length-7)
		want := map[int]api.Errno{1161: api.ErrText, 1162: api.ErrOver}[length]
		checkNoParse(t, s, want)
	}
	for _, length := range []int{1 << 16, 1<<16 + 20, 1 << 20} { // lengths that would fit if counted in two bytes
		checkNoParse(t, "http://a/"+strings.Repeat("x", length), api.ErrOver)
	}
}

// TestParseLongest has the longest strings that are parsed: with the greatest
// user and text, and with a default port and an empty path that are not in it.
func TestParseLongest(t *testing.T) {
	user := strings.Repeat("u", 128)
	path := "/" + strings.Repeat("x", 1014)
	want := api.URL{Scheme: "https", User: user, Host: "a", Path: path}
	checkParse(t, "https://"+user+"@a"+path, want)
	checkParse(t, "https://"+user+"@a:443"+path, want) // 1157 bytes
	checkNoParse(t, "https://"+user+"@a"+path+"x", api.ErrText)
	checkNoParse(t, "https://"+user+"@a:443"+path+"x", api.ErrText)
	checkNoParse(t, "https://"+user+"@a:444"+path, api.ErrText)
	checkNoParse(t, "https://"+user+"u@a"+path, api.ErrText)

	query := strings.Repeat("q", 1014)
	checkParse(t, "http://a?"+query, api.URL{Scheme: "http", Host: "a", Path: "/", HasQuery: true, Query: query})
	checkNoParse(t, "http://a?"+query+"q", api.ErrText) // 1024 bytes, but 1025 with the /
	checkParse(t, "http://a#"+query, api.URL{Scheme: "http", Host: "a", Path: "/", HasFrag: true, Frag: query})
	checkNoParse(t, "http://a#"+query+"q", api.ErrText)
}

func TestParseOfTexts(t *testing.T) {
	for _, u := range shapes() {
		checkParse(t, Text(u), u)
	}
	r := rand.New(rand.NewSource(6))
	for range 3000 {
		u := randomURL(r)
		if !plainGood(u) {
			t.Fatalf("%q is not valid", plainText(u))
		}
		checkGood(t, u, true)
		checkParse(t, Text(u), u)
	}
}

// randomBytes returns up to so many of the bytes of a form.
func randomBytes(r *rand.Rand, form *regexp.Regexp, start string, most int) string {
	var allowed []byte
	for c := range 256 {
		if form.MatchString(start + text(c)) {
			allowed = append(allowed, byte(c))
		}
	}
	out := []byte(start)
	for range r.Intn(most + 1) {
		out = append(out, allowed[r.Intn(len(allowed))])
	}
	return string(out)
}

// randomURL returns a valid one.
func randomURL(r *rand.Rand) api.URL {
	u := api.URL{Scheme: []string{"http", "https"}[r.Intn(2)], Host: strings.Repeat("a0-z.", r.Intn(40)) + "b", Path: randomBytes(r, pathForm, "/", 250)}
	if r.Intn(2) == 0 {
		u.User = randomBytes(r, userForm, "", 128)
	}
	if r.Intn(2) == 0 {
		u.Port = 1024 + r.Intn(64512)
	}
	if r.Intn(2) == 0 {
		u.HasQuery, u.Query = true, randomBytes(r, queryForm, "", 250)
	}
	if r.Intn(2) == 0 {
		u.HasFrag, u.Frag = true, randomBytes(r, fragForm, "", 250)
	}
	return u
}

// TestParseOfRandomTexts changes single bytes of valid texts.
func TestParseOfRandomTexts(t *testing.T) {
	r := rand.New(rand.NewSource(7))
	counts := map[api.Errno]int{}
	for range 10000 {
		b := []byte(Text(randomURL(r)))
		for range r.Intn(4) {
			place := r.Intn(len(b))
			if r.Intn(2) == 0 {
				place = r.Intn(min(len(b), 30))
			}
			c := byte(r.Intn(256))
			if r.Intn(2) == 0 {
				c = "/?#@:.80Aa"[r.Intn(10)]
			}
			if r.Intn(2) == 0 {
				b[place] = c
			} else {
				b = slices.Insert(b, place, c)
			}
		}
		checkPlain(t, string(b))
		_, e := plainParse(string(b))
		counts[e]++
	}
	if counts[api.OK] < 1000 || counts[api.ErrText] < 1000 {
		t.Errorf("of the results %v one kind is hardly tested", counts)
	}
}

func TestNothingIsKept(t *testing.T) {
	for range 3 {
		checkParse(t, "HTTP://A.example:80?x", api.URL{Scheme: "http", Host: "a.example", Path: "/", HasQuery: true, Query: "x"})
		checkNoParse(t, "http://a:080", api.ErrText)
		checkNoParse(t, strings.Repeat("x", 1162), api.ErrOver)
		checkGood(t, full(), true)
		checkGood(t, api.URL{}, false)
		if Port(small("http")) != 80 || Port(small("https")) != 443 {
			t.Error("Port differs after other calls")
		}
	}
}

func FuzzURL(f *testing.F) {
	f.Add("HTTP://A.example:80?x", "me", 80)
	f.Add("https://me:pw@a.example:8443/b/c?d=e#f", "", 0)
	f.Add("http://a@b@c", "a@b", -1)
	f.Add("http://a#?/#", "{", 65536)
	f.Fuzz(func(t *testing.T, s, other string, port int) {
		checkPlain(t, s)
		checkPlain(t, "http://"+s)
		u, _ := Parse(s)
		for _, change := range []func(*api.URL){
			func(u *api.URL) {},
			func(u *api.URL) { u.Scheme = other },
			func(u *api.URL) { u.User = other },
			func(u *api.URL) { u.Host = other },
			func(u *api.URL) { u.Port = port },
			func(u *api.URL) { u.Path = other },
			func(u *api.URL) { u.Query = other },
			func(u *api.URL) { u.Frag = other },
		} {
			changed := u
			change(&changed)
			good := plainGood(changed)
			checkGood(t, changed, good)
			if good {
				checkParse(t, Text(changed), changed)
			}
		}
	})
}
