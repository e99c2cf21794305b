package source

import (
	"fmt"
	"math"
	"math/rand"
	"regexp"
	"slices"
	"strconv"
	"strings"
	"testing"

	"pursuivant/api"
	"pursuivant/origin"
	"pursuivant/url"
)

const (
	lowers     = "abcdefghijklmnopqrstuvwxyz"
	uppers     = "ABCDEFGHIJKLMNOPQRSTUVWXYZ"
	digits     = "0123456789"
	nonceBytes = lowers + uppers + digits + "+/_-="
	pathBytes  = lowers + uppers + digits + "!$%&'()*+,-./:;=@[]_~"
)

// anyCase returns an expression for the letters of s in any case. (?i) would
// make runes that are no ASCII match k and s.
func anyCase(s string) string {
	var out strings.Builder
	for _, c := range s {
		if place := strings.IndexRune(lowers, c); place >= 0 {
			fmt.Fprintf(&out, "[%c%c]", c, uppers[place])
		} else {
			out.WriteString(regexp.QuoteMeta(string(c)))
		}
	}
	return out.String()
}

var (
	schemeForm = "(" + anyCase("http") + "[sS]?)"
	hostForm   = regexp.MustCompile(`\A[a-z0-9]([a-z0-9-]{0,61}[a-z0-9])?(\.[a-z0-9]([a-z0-9-]{0,61}[a-z0-9])?)*\z`)
	nonceForm  = regexp.MustCompile(`\A[A-Za-z0-9+/_=-]+\z`)
	pathForm   = regexp.MustCompile(`\A(/[!$-;=@-\[\]_a-z~]*)?\z`)

	selfWhole   = regexp.MustCompile(`\A` + anyCase("'self'") + `\z`)
	schemeWhole = regexp.MustCompile(`\A` + schemeForm + `:\z`)
	nonceWhole  = regexp.MustCompile(`\A` + anyCase("'nonce-") + `([^']*)'\z`)
	hostWhole   = regexp.MustCompile(`\A(?:` + schemeForm + `://)?(\*\.)?([A-Za-z0-9.-]+)(?::(\*|[1-9][0-9]{0,4}))?(/.*)?\z`)
)

// swap returns s with each byte of from replaced by that of to.
func swap(s, from, to string) string {
	out := []byte(s)
	for i, c := range out {
		if place := strings.IndexByte(from, c); place >= 0 {
			out[i] = to[place]
		}
	}
	return string(out)
}

func plainLower(s string) string { return swap(s, uppers, lowers) }
func plainUpper(s string) string { return swap(s, lowers, uppers) }

// cases returns s in lower and upper case, in mixed case, and with a single
// letter in the other case at each place.
func cases(s string) []string {
	low, up := plainLower(s), plainUpper(s)
	mixed := []byte(low)
	for i := 0; i < len(mixed); i += 2 {
		mixed[i] = up[i]
	}
	out := []string{low, up, string(mixed)}
	for i := range len(s) {
		out = append(out, low[:i]+up[i:i+1]+low[i+1:], up[:i]+low[i:i+1]+up[i+1:])
	}
	return out
}

// text returns the text of one byte.
func text(c int) string {
	return string([]byte{byte(c)})
}

func plainScheme(scheme string) bool {
	return scheme == "http" || scheme == "https"
}

func plainHost(name string) bool {
	return len(name) <= 253 && hostForm.MatchString(name)
}

// plainGood follows the chapter's words, with every field that must be zero.
func plainGood(x api.Source) bool {
	noHost := !x.Sub && x.Host == "" && x.Port == 0 && x.Path == ""
	switch x.Kind {
	case 1, 2:
		return noHost && x.Scheme == "" && x.Nonce == ""
	case 3:
		return noHost && plainScheme(x.Scheme) && x.Nonce == ""
	case 4:
		return (x.Scheme == "" || plainScheme(x.Scheme)) && plainHost(x.Host) && x.Port > -2 && x.Port < 65536 && pathForm.MatchString(x.Path) && x.Nonce == ""
	case 5:
		return noHost && x.Scheme == "" && nonceForm.MatchString(x.Nonce)
	}
	return false
}

func plainText(x api.Source) string {
	if !plainGood(x) {
		return ""
	}
	switch x.Kind {
	case 1:
		return "'self'"
	case 2:
		return "*"
	case 3:
		return x.Scheme + ":"
	case 5:
		return "'nonce-" + x.Nonce + "'"
	}
	scheme, sub, port := "", "", ""
	if x.Scheme == "http" || x.Scheme == "https" {
		scheme = x.Scheme + "://"
	}
	if x.Sub {
		sub = "*."
	}
	if x.Port == -1 {
		port = ":*"
	} else if x.Port != 0 {
		port = ":" + strconv.Itoa(x.Port)
	}
	return strings.Join([]string{scheme, sub, x.Host, port, x.Path}, "")
}

// plainParse takes s apart by regular expressions.
func plainParse(s string) (api.Source, bool) {
	var x api.Source
	if selfWhole.MatchString(s) {
		x.Kind = 1
	} else if s == "*" {
		x.Kind = 2
	} else if found := schemeWhole.FindStringSubmatch(s); found != nil {
		x.Kind, x.Scheme = 3, plainLower(found[1])
	} else if found := nonceWhole.FindStringSubmatch(s); found != nil {
		x.Kind, x.Nonce = 5, found[1]
	} else if found := hostWhole.FindStringSubmatch(s); found != nil {
		x = api.Source{Kind: 4, Scheme: plainLower(found[1]), Sub: found[2] != "", Host: plainLower(found[3]), Path: found[5]}
		if found[4] == "*" {
			x.Port = -1
		} else if found[4] != "" {
			x.Port, _ = strconv.Atoi(found[4])
		}
	}
	if !plainGood(x) {
		return api.Source{}, false
	}
	return x, true
}

// plainMatch lists what fails.
func plainMatch(x api.Source, u api.URL, self api.Origin, moved bool) bool {
	defaults := map[string]int{"http": 80, "https": 443}
	covers := map[string]bool{"http http": true, "http https": true, "https https": true}
	port := u.Port
	if port == 0 {
		port = defaults[u.Scheme]
	}
	switch x.Kind {
	case 2:
		return true
	case 3:
		return covers[x.Scheme+" "+u.Scheme]
	case 1:
		if u.Host != self.Host {
			return false
		}
		if u.Scheme == self.Scheme {
			return port == self.Port
		}
		return self.Scheme == "http" && self.Port == 80 && port == 443
	case 5:
		return false
	}
	scheme := x.Scheme
	if scheme == "" {
		scheme = self.Scheme
	}
	hosts := regexp.MustCompile(`\A` + regexp.QuoteMeta(x.Host) + `\z`)
	if x.Sub {
		hosts = regexp.MustCompile(`\A.+\.` + regexp.QuoteMeta(x.Host) + `\z`)
	}
	switch {
	case !covers[scheme+" "+u.Scheme]:
	case !hosts.MatchString(u.Host):
	case x.Port > 0 && x.Port != port && !(x.Port == 80 && port == 443 && u.Scheme == "https"):
	case x.Port == 0 && port != defaults[u.Scheme]:
	case !moved && x.Path != "" && x.Path != u.Path && !strings.HasSuffix(x.Path, "/"):
	case !moved && strings.HasSuffix(x.Path, "/") && (len(u.Path) < len(x.Path) || u.Path[:len(x.Path)] != x.Path):
	default:
		return true
	}
	return false
}

// show writes out a value, as far as a line has room for it.
func show(v any) string {
	return fmt.Sprintf("%.300s", fmt.Sprintf("%#v", v))
}

// checkValid checks all that concerns a valid source and its text.
func checkValid(t *testing.T, x api.Source, text string) {
	t.Helper()
	if !Good(x) {
		t.Errorf("Good(%s) = false", show(x))
	}
	if got := Text(x); got != text {
		t.Errorf("Text(%s) = %.300q, want %.300q", show(x), got, text)
	}
	checkParse(t, text, x)
}

func checkNotValid(t *testing.T, x api.Source) {
	t.Helper()
	if Good(x) {
		t.Errorf("Good(%s) = true", show(x))
	}
	if got := Text(x); got != "" {
		t.Errorf("Text(%s) = %.300q, want nothing", show(x), got)
	}
}

func checkParse(t *testing.T, s string, want api.Source) {
	t.Helper()
	if x, ok := Parse(s); x != want || !ok {
		t.Errorf("Parse(%.300q) = %s, %v, want %s, true", s, show(x), ok, show(want))
	}
}

func checkNoParse(t *testing.T, s string) {
	t.Helper()
	if x, ok := Parse(s); x != (api.Source{}) || ok {
		t.Errorf("Parse(%.300q) = %s, %v, want the zero source, false", s, show(x), ok)
	}
}

// checkPlain compares with the model, and returns what that has.
func checkPlain(t *testing.T, s string) (api.Source, bool) {
	t.Helper()
	want, wantOK := plainParse(s)
	if wantOK {
		checkParse(t, s, want)
		checkValid(t, want, plainText(want))
	} else {
		checkNoParse(t, s)
	}
	return want, wantOK
}

func checkGoodPlain(t *testing.T, x api.Source) {
	t.Helper()
	if plainGood(x) {
		checkValid(t, x, plainText(x))
	} else {
		checkNotValid(t, x)
	}
}

func checkMatch(t *testing.T, x api.Source, u api.URL, self api.Origin, moved, want bool) {
	t.Helper()
	if got := Match(x, u, self, moved); got != want {
		t.Errorf("Match of %.200q with %.200q for %q, moved %v, = %v", Text(x), url.Text(u), origin.Text(self), moved, got)
	}
}

// checkMatches takes texts, and what Match reports if moved is false and true.
func checkMatches(t *testing.T, source, to, from string, near, moved bool) {
	t.Helper()
	x, ok := plainParse(source)
	u, e := url.Parse(to)
	self, e2 := origin.Parse(from)
	if !ok || e != api.OK || e2 != api.OK {
		t.Fatalf("the test has a wrong source %q, URL %q or origin %q", source, to, from)
	}
	checkMatch(t, x, u, self, false, near)
	checkMatch(t, x, u, self, true, moved)
	if plainMatch(x, u, self, false) != near || plainMatch(x, u, self, true) != moved {
		t.Errorf("the model says otherwise of %q with %q for %q", source, to, from)
	}
}

// hostOf returns a text of parts with these lengths, joined by dots.
func hostOf(lengths ...int) string {
	var list []string
	for _, length := range lengths {
		list = append(list, strings.Repeat("x", length))
	}
	return strings.Join(list, ".")
}

var (
	goodHosts = []string{"a", "z", "0", "9", "example", "a.example", "www.example.com", "a-b", "a--b.c", "xn--bcher-kva.example", "127.0.0.1", "80", "443", "a.80", "self", "nonce-a", "none", "http", "https", "null", hostOf(63), hostOf(63, 63, 63, 61), strings.Repeat("a.", 126) + "a"}
	badHosts  = []string{
		"", ".", "..", "-", "a.", ".a", "a..b", "-a", "a-", "a.-b", "a-.b", "*", "*.", "*a", "a*", "a.*", "*.*.a", "*..a", ".*.a", "a.*.b", "**.a", "**", "*-a",
		"a_b", "a b", " a", "a ", "a\n", "\ta", "a\x00", "u@a", "@a", "u:p@a", "[::1]", "[a]", "::1", ":", "%61", "a%", "\u00E9", "\u212A", "\xFF", "a\xFF", "'a'", "'self'", "'none'", "\"a\"", "a,b", "a;b", "a=b", "a+b",
		hostOf(64), hostOf(63, 63, 63, 62), hostOf(63, 63, 63, 61) + ".", hostOf(63, 64, 1), strings.Repeat("a.", 127) + "a", strings.Repeat("a.", 500) + "a",
	}
	badSchemes = []string{"HTTP", "HTTPS", "Http", "httP", "hTTps", "httpS", "ftp", "ws", "wss", "file", "data", "blob", "about", "h", "htt", "ttp", "httpss", "xhttp", "httpx", "http:", "https:", "http://", " http", "http ", "http\x00", "\x00", "\xFF", "*", "'self'", "null", "\u017F", "http\u017F"}
	goodPaths  = []string{"", "/", "//", "/a", "/A", "/a/", "/a/b", "/a/B/", "/./..", "/%2F%zz", "/a:80", "/:*", "/*", "/*.a", "/http://b", "/://", "/'self'", "/'nonce-a'", "/;,", "/u@a", "/" + pathBytes, "/" + strings.Repeat("p", 1023), "/" + strings.Repeat("p", 5000)}
	badPaths   = []string{"a", "a/", "*", ":", ":80", ":*", " /", " ", "\x00", "?", "#", "/?", "/a?", "/?a", "/#", "/a#b", "/a?b", "/ ", "/ a", "/a b", "/\t", "/a\n", "/\n", "/\"", "/<", "/a>", "/\\", "/^", "/`", "/{", "/|", "/a}", "/\x7F", "/\x00", "/\u00E9", "/\xFF", "/a/\x80", "/" + strings.Repeat("p", 2000) + "?"}
	badPorts   = []int{-2, -3, -80, -443, -65535, -65536, 65536, 65537, 65536 + 80, 1 << 17, 1<<31 - 1, 1 << 31, 1<<32 - 1, 1 << 32, 1<<32 + 80, math.MaxInt, math.MinInt, math.MinInt + 80}
	noPorts    = []string{"", "0", "00", "01", "080", "0443", "00000", "65536", "65537", "70000", "99999", "100000", "4294967376", "18446744073709551696", "-1", "-80", "+80", "-", "+", "x", "8x", "x8", "0x50", "8 ", " 8", "8\n", "8.0", "8,0", "8:", ":8", ":", "8:8", "80:80", "**", "*8", "8*", "*:*", "*:8", "8:*", "* ", " *", ".*", "*.", "a", "A", "http", "\u0661", "\uFF18", "\xFF", strings.Repeat("1", 500), "1e3", "1_0"}
)

// ofKinds holds a valid source of each kind, and one of SrcHost that has all
// fields which that may have.
func ofKinds() []api.Source {
	return []api.Source{
		{Kind: api.SrcSelf},
		{Kind: api.SrcStar},
		{Kind: api.SrcScheme, Scheme: "http"},
		{Kind: api.SrcScheme, Scheme: "https"},
		{Kind: api.SrcNonce, Nonce: "aB+/9="},
		{Kind: api.SrcHost, Host: "a"},
		{Kind: api.SrcHost, Scheme: "https", Sub: true, Host: "a.example", Port: 8443, Path: "/B/c"},
	}
}

func TestKnown(t *testing.T) {
	for text, x := range map[string]api.Source{
		"'self'":                         {Kind: 1},
		"*":                              {Kind: 2},
		"http:":                          {Kind: 3, Scheme: "http"},
		"https:":                         {Kind: 3, Scheme: "https"},
		"'nonce-a'":                      {Kind: 5, Nonce: "a"},
		"'nonce--'":                      {Kind: 5, Nonce: "-"},
		"'nonce-aB+/9_-='":               {Kind: 5, Nonce: "aB+/9_-="},
		"'nonce-nonce-'":                 {Kind: 5, Nonce: "nonce-"},
		"'nonce-SELF'":                   {Kind: 5, Nonce: "SELF"},
		"a":                              {Kind: 4, Host: "a"},
		"self":                           {Kind: 4, Host: "self"},
		"http":                           {Kind: 4, Host: "http"},
		"https":                          {Kind: 4, Host: "https"},
		"nonce-a":                        {Kind: 4, Host: "nonce-a"},
		"none":                           {Kind: 4, Host: "none"},
		"80":                             {Kind: 4, Host: "80"},
		"a.example":                      {Kind: 4, Host: "a.example"},
		"*.example":                      {Kind: 4, Sub: true, Host: "example"},
		"*.a.example":                    {Kind: 4, Sub: true, Host: "a.example"},
		"a:1":                            {Kind: 4, Host: "a", Port: 1},
		"a:80":                           {Kind: 4, Host: "a", Port: 80},
		"a:65535":                        {Kind: 4, Host: "a", Port: 65535},
		"a:*":                            {Kind: 4, Host: "a", Port: -1},
		"http:80":                        {Kind: 4, Host: "http", Port: 80},
		"http:*":                         {Kind: 4, Host: "http", Port: -1},
		"https:443//b":                   {Kind: 4, Host: "https", Port: 443, Path: "//b"},
		"http:*//b":                      {Kind: 4, Host: "http", Port: -1, Path: "//b"},
		"*.a:80":                         {Kind: 4, Sub: true, Host: "a", Port: 80},
		"*.a:*":                          {Kind: 4, Sub: true, Host: "a", Port: -1},
		"a/":                             {Kind: 4, Host: "a", Path: "/"},
		"a//":                            {Kind: 4, Host: "a", Path: "//"},
		"a/B":                            {Kind: 4, Host: "a", Path: "/B"},
		"a/http://b":                     {Kind: 4, Host: "a", Path: "/http://b"},
		"a/://":                          {Kind: 4, Host: "a", Path: "/://"},
		"http/://b":                      {Kind: 4, Host: "http", Path: "/://b"},
		"https//b":                       {Kind: 4, Host: "https", Path: "//b"},
		"a:8/b:9":                        {Kind: 4, Host: "a", Port: 8, Path: "/b:9"},
		"a:*/":                           {Kind: 4, Host: "a", Port: -1, Path: "/"},
		"a/*.b:*":                        {Kind: 4, Host: "a", Path: "/*.b:*"},
		"http://a":                       {Kind: 4, Scheme: "http", Host: "a"},
		"https://a":                      {Kind: 4, Scheme: "https", Host: "a"},
		"http://http":                    {Kind: 4, Scheme: "http", Host: "http"},
		"https://http:443":               {Kind: 4, Scheme: "https", Host: "http", Port: 443},
		"http://a:80":                    {Kind: 4, Scheme: "http", Host: "a", Port: 80},
		"https://a:443/":                 {Kind: 4, Scheme: "https", Host: "a", Port: 443, Path: "/"},
		"http://a/http://b":              {Kind: 4, Scheme: "http", Host: "a", Path: "/http://b"},
		"http://*.a":                     {Kind: 4, Scheme: "http", Sub: true, Host: "a"},
		"https://*.a.example:8443/B/c":   {Kind: 4, Scheme: "https", Sub: true, Host: "a.example", Port: 8443, Path: "/B/c"},
		"https://*.a.example:*/B/c/":     {Kind: 4, Scheme: "https", Sub: true, Host: "a.example", Port: -1, Path: "/B/c/"},
		"a/!$%&'()*+,-./09:;=@AZ[]_az~/": {Kind: 4, Host: "a", Path: "/!$%&'()*+,-./09:;=@AZ[]_az~/"},
	} {
		checkValid(t, x, text)
		checkPlain(t, text)
	}
}

func TestKindsThereAreNot(t *testing.T) {
	for _, kind := range []int{0, -1, -2, -3, -4, -5, 6, 7, 8, 16, 255, 256, 257, 258, 259, 260, 261, 1<<16 + 4, 1<<32 + 1, 1<<32 + 4, math.MaxInt, math.MinInt, math.MinInt + 4} {
		for _, x := range ofKinds() {
			x.Kind = kind
			checkNotValid(t, x)
		}
		checkNotValid(t, api.Source{Kind: kind})
	}
	checkNotValid(t, api.Source{})
}

// TestOfAnotherKind has the fields of each kind with each other kind.
func TestOfAnotherKind(t *testing.T) {
	for _, x := range ofKinds() {
		own := x.Kind
		for _, kind := range []int{1, 2, 3, 4, 5} {
			x.Kind = kind
			selfAndStar := own <= 2 && kind <= 2
			if kind == own || selfAndStar {
				if !Good(x) {
					t.Errorf("Good(%s) = false", show(x))
				}
			} else {
				checkNotValid(t, x)
			}
		}
	}
}

// TestFieldsThatMustBeZero sets each field alone that a kind does not have.
func TestFieldsThatMustBeZero(t *testing.T) {
	scheme := []func(x *api.Source){
		func(x *api.Source) { x.Scheme = "http" },
		func(x *api.Source) { x.Scheme = "https" },
		func(x *api.Source) { x.Scheme = "ftp" },
		func(x *api.Source) { x.Scheme = "\x00" },
	}
	hosts := []func(x *api.Source){
		func(x *api.Source) { x.Sub = true },
		func(x *api.Source) { x.Host = "a" },
		func(x *api.Source) { x.Host = "\x00" },
		func(x *api.Source) { x.Port = 80 },
		func(x *api.Source) { x.Port = 1 },
		func(x *api.Source) { x.Port = -1 },
		func(x *api.Source) { x.Port = math.MinInt },
		func(x *api.Source) { x.Path = "/" },
		func(x *api.Source) { x.Path = "x" },
	}
	nonce := []func(x *api.Source){
		func(x *api.Source) { x.Nonce = "a" },
		func(x *api.Source) { x.Nonce = "'" },
		func(x *api.Source) { x.Nonce = "\x00" },
	}
	for _, x := range ofKinds() {
		var changes []func(x *api.Source)
		switch x.Kind {
		case api.SrcSelf, api.SrcStar:
			changes = slices.Concat(scheme, hosts, nonce)
		case api.SrcScheme:
			changes = slices.Concat(hosts, nonce)
		case api.SrcNonce:
			changes = slices.Concat(scheme, hosts)
		case api.SrcHost:
			changes = nonce
		}
		if !Good(x) {
			t.Errorf("Good(%s) = false", show(x))
		}
		for _, change := range changes {
			y := x
			change(&y)
			checkNotValid(t, y)
		}
	}
}

func TestNonces(t *testing.T) {
	checkNotValid(t, api.Source{Kind: api.SrcNonce})
	checkNoParse(t, "'nonce-'")
	allowed := 0
	for c := range 256 {
		one := text(c)
		in := strings.Contains(nonceBytes, one)
		if in {
			allowed++
		}
		for _, nonce := range []string{one, one + "a", "a" + one, "ab" + one + "cd", one + one, strings.Repeat("x", 300) + one} {
			x := api.Source{Kind: api.SrcNonce, Nonce: nonce}
			if in {
				checkValid(t, x, "'nonce-"+nonce+"'")
				checkParse(t, "'NoNcE-"+nonce+"'", x)
			} else {
				checkNotValid(t, x)
				checkNoParse(t, "'nonce-"+nonce+"'")
			}
		}
	}
	if allowed != 67 {
		t.Errorf("%d bytes may be in a nonce", allowed)
	}
	for _, length := range []int{1, 2, 3, 63, 64, 65, 128, 253, 254, 1024, 1025, 20000} {
		nonce := strings.Repeat("N=", length)[:length]
		checkValid(t, api.Source{Kind: api.SrcNonce, Nonce: nonce}, "'nonce-"+nonce+"'")
	}
	for _, nonce := range []string{" ", "a b", "a'", "'", "''", "'a'", "\u00E9", "\u212A", "a.b", "a,b", "a:b", "a;b", "*", "a*", "@", "[", "`", "{", ".", "\n", "a\n", "\x00", "\xFF"} {
		checkNotValid(t, api.Source{Kind: api.SrcNonce, Nonce: nonce})
		checkNoParse(t, "'nonce-"+nonce+"'")
	}
}

// TestNonceCase keeps the nonce, but not the word before it.
func TestNonceCase(t *testing.T) {
	for _, word := range cases("'nonce-") {
		for _, nonce := range append(cases("abcXyz"), "NONCE-a", "nonce-A", "A", "z", "Z9") {
			checkParse(t, word+nonce+"'", api.Source{Kind: api.SrcNonce, Nonce: nonce})
		}
		checkNoParse(t, word)
		checkNoParse(t, word+"'")
		checkNoParse(t, word+"''")
		checkNoParse(t, word+"a")
		checkNoParse(t, word+"a''")
		checkNoParse(t, word+"'a'")
		checkNoParse(t, word+"a\"")
		checkNoParse(t, word+"a' ")
		checkNoParse(t, " "+word+"a'")
		checkNoParse(t, "'"+word+"a'")
		checkNoParse(t, "a"+word+"a'")
		checkNoParse(t, word[:6]+"a'")
		checkNoParse(t, word[:6]+"_a'")
		checkNoParse(t, word[:6]+"'")
		checkNoParse(t, word+"a'/")
		checkNoParse(t, word+"a':80")
	}
	for _, s := range []string{"nonce-a'", "\"nonce-a\"", "'nonce-a", "'nonc-a'", "'noncee-a'", "'nonce-", "'nonce", "'", "''", "'nonce'", "'nonceless-a'", "'\u0273once-a'", "\u2018nonce-a\u2019", "`nonce-a`", "'once-a'", "*'nonce-a'", "http://'nonce-a'", "'nonce-a' 'nonce-b'"} {
		checkNoParse(t, s)
	}
}

func TestSelfText(t *testing.T) {
	for _, s := range cases("'self'") {
		checkParse(t, s, api.Source{Kind: api.SrcSelf})
		checkNoParse(t, s[1:])
		checkNoParse(t, s[:5])
		checkNoParse(t, s[:4]+"'")
		checkNoParse(t, "'"+s[2:])
		checkNoParse(t, s+s)
		for c := range 256 {
			checkNoParse(t, text(c)+s)
			checkNoParse(t, s+text(c))
			checkNoParse(t, s[:5]+text(c)+"'")
			checkNoParse(t, s[:1]+text(c)+s[1:])
		}
		checkParse(t, s[1:5], api.Source{Kind: api.SrcHost, Host: "self"})
	}
	for i := range len("'self'") {
		for c := range 256 {
			s := "'self'"[:i] + text(c) + "'self'"[i+1:]
			if plainLower(s) != "'self'" {
				checkNoParse(t, s)
			}
		}
	}
	for _, s := range []string{"'none'", "'\u017Felf'", "'se\u217Cf'", "\"self\"", "\u2018self\u2019", "'self'/", "'self':80", "http://'self'", "*.'self'", "'unsafe-inline'", "'strict-dynamic'", "'report-sample'"} {
		checkNoParse(t, s)
	}
}

func TestStarText(t *testing.T) {
	checkParse(t, "*", api.Source{Kind: api.SrcStar})
	for c := range 256 {
		checkNoParse(t, text(c)+"*")
		checkNoParse(t, "*"+text(c))
	}
	for _, s := range []string{"**", "*.", "*.*", "*:80", "*:*", "*/", "*/a", "http://*", "https://*", "http://*:80", "http://*/", "http://*.", "http://*.:80", "http://*./", "*.:80", "*./", "*./a", "\u2217", "\uFF0A"} {
		checkNoParse(t, s)
	}
}

func TestSchemeText(t *testing.T) {
	for _, scheme := range []string{"http", "https"} {
		x := api.Source{Kind: api.SrcScheme, Scheme: scheme}
		checkValid(t, x, scheme+":")
		for _, s := range cases(scheme) {
			checkParse(t, s+":", x)
			checkParse(t, s, api.Source{Kind: api.SrcHost, Host: scheme}) // without the colon it is a host
			checkParse(t, s+"/", api.Source{Kind: api.SrcHost, Host: scheme, Path: "/"})
			checkParse(t, s+"//:", api.Source{Kind: api.SrcHost, Host: scheme, Path: "//:"})
			checkParse(t, s+"://b", api.Source{Kind: api.SrcHost, Scheme: scheme, Host: "b"})
			for _, rest := range []string{"::", ":/", "://", ":///", ":////", ":///b", ":/b", ":b", ":?", ":#", ": ", " :", ":'", "://:80", "://:*", "://*", "://*.", "://*:80", "://?", "://#", "://@", "://http:", "://http://b", "://https://b", ":://b", ":0", ":\n", ":\x00", "://.", "://-", ":\\\\b", "://b?", "://b#", ":// b"} {
				checkNoParse(t, s+rest)
			}
			for c := range 256 {
				checkNoParse(t, text(c)+s+":")
				if !strings.Contains("123456789*", text(c)) { // which are ports of a host
					checkNoParse(t, s+":"+text(c))
				}
			}
		}
	}
	for _, scheme := range badSchemes {
		checkNotValid(t, api.Source{Kind: api.SrcScheme, Scheme: scheme})
		checkNotValid(t, api.Source{Kind: api.SrcHost, Scheme: scheme, Host: "a"})
		if low := plainLower(scheme); low != "http" && low != "https" {
			checkNoParse(t, scheme+":")
			checkNoParse(t, scheme+"://a")
			checkNoParse(t, scheme+"://*.a:80/b")
		}
	}
	checkNotValid(t, api.Source{Kind: api.SrcScheme})
	for _, s := range []string{":", "://", "://a", "//a", "/", "/a", "//", ":80", ":*", ":/a", "data:", "ws:", "blob:", "file:", "ftp:", "javascript:", "a:", "a://b"} {
		checkNoParse(t, s)
	}
}

func TestHosts(t *testing.T) {
	for _, name := range goodHosts {
		checkValid(t, api.Source{Kind: api.SrcHost, Host: name}, name)
		checkValid(t, api.Source{Kind: api.SrcHost, Sub: true, Host: name}, "*."+name)
		checkValid(t, api.Source{Kind: api.SrcHost, Scheme: "http", Sub: true, Host: name}, "http://*."+name)
		checkValid(t, api.Source{Kind: api.SrcHost, Scheme: "https", Host: name, Port: -1, Path: "/A"}, "https://"+name+":*/A")
		checkNoParse(t, "*"+name)
		checkNoParse(t, "*.*."+name)
		checkNoParse(t, "**."+name)
		checkNoParse(t, "*.."+name)
		checkNoParse(t, "."+name)
		checkNoParse(t, name+".")
		checkNoParse(t, name+".*")
		checkNoParse(t, "http://*.*."+name)
		checkNoParse(t, "*.http://"+name)
	}
	for _, name := range badHosts {
		for _, scheme := range []string{"", "http", "https"} {
			for _, sub := range []bool{false, true} {
				for _, port := range []int{-1, 0, 80} {
					for _, path := range []string{"", "/", "/b"} {
						checkNotValid(t, api.Source{Kind: api.SrcHost, Scheme: scheme, Sub: sub, Host: name, Port: port, Path: path})
					}
				}
			}
		}
		// Some of them are texts of other sources when they stand alone.
		for _, s := range []string{name + ":80", name + ":*/a", name + "/a", "http://" + name, "https://" + name + ":80", "*." + name, "http://*." + name + "/", "HTTPS://" + name} {
			checkNoParse(t, s)
		}
	}
	for _, name := range []string{"A", "Z", "EXAMPLE", "A.example", "a.Example", "a.examplE"} {
		checkNotValid(t, api.Source{Kind: api.SrcHost, Host: name})
		checkNotValid(t, api.Source{Kind: api.SrcHost, Scheme: "https", Sub: true, Host: name, Port: 8, Path: "/"})
	}
}

func TestHostsOfEveryByte(t *testing.T) {
	inHost := lowers + digits
	for c := range 256 {
		one := text(c)
		low := plainLower(one)
		if strings.Contains(inHost, low) {
			checkParse(t, one, api.Source{Kind: api.SrcHost, Host: low})
			checkParse(t, "*."+one, api.Source{Kind: api.SrcHost, Sub: true, Host: low})
		} else if one == "*" {
			checkParse(t, one, api.Source{Kind: api.SrcStar})
		} else {
			checkNoParse(t, one)
			checkNoParse(t, "*."+one)
		}
		for _, around := range [][2]string{{"a", "b"}, {"http://a", "b"}, {"*.a", "b"}, {"a", "b:80"}, {"a", "b/c"}} {
			s := around[0] + one + around[1]
			checkPlain(t, s)
			if _, ok := Parse(s); ok != strings.Contains(inHost+".-/", low) {
				t.Errorf("Parse(%q) reports %v", s, ok)
			}
		}
		checkGoodPlain(t, api.Source{Kind: api.SrcHost, Host: one})
		checkGoodPlain(t, api.Source{Kind: api.SrcHost, Host: "a" + one + "b"})
	}
}

func TestHostCase(t *testing.T) {
	for _, name := range cases("a.exam-ple9z") {
		for _, scheme := range []string{"http", "HTTP", "Http", "hTTp", "https", "HTTPS", "httpS", "HtTpS"} {
			x := api.Source{Kind: api.SrcHost, Host: "a.exam-ple9z", Path: "/AbC"}
			checkParse(t, name+"/AbC", x)
			x.Scheme = plainLower(scheme)
			checkParse(t, scheme+"://"+name+"/AbC", x)
			x.Sub, x.Port = true, 443
			checkParse(t, scheme+"://*."+name+":443/AbC", x)
			x.Path = ""
			checkParse(t, scheme+"://*."+name+":443", x)
		}
	}
	for _, path := range cases("/http://abcXyz/'self'") {
		checkValid(t, api.Source{Kind: api.SrcHost, Host: "a", Path: path}, "a"+path)
		checkParse(t, "A"+path, api.Source{Kind: api.SrcHost, Host: "a", Path: path})
		checkParse(t, "HTTPS://*.A:*"+path, api.Source{Kind: api.SrcHost, Scheme: "https", Sub: true, Host: "a", Port: -1, Path: path})
	}
	for _, s := range []string{"\u212A", "a\u212Ab", "\u017F", "ab\u017F.c", "\u0130", "http\u017F://a", "http\u017F:"} {
		checkNoParse(t, s)
	}
}

func TestPorts(t *testing.T) {
	for port := -1; port <= 65535; port++ {
		end := ":" + strconv.Itoa(port)
		if port == -1 {
			end = ":*"
		} else if port == 0 {
			end = ""
		}
		checkValid(t, api.Source{Kind: api.SrcHost, Host: "a", Port: port}, "a"+end)
	}
	for _, port := range []int{-1, 1, 2, 79, 80, 81, 442, 443, 444, 8080, 65534, 65535} {
		end := strings.Replace(":"+strconv.Itoa(port), "-1", "*", 1)
		checkValid(t, api.Source{Kind: api.SrcHost, Scheme: "http", Host: "a", Port: port}, "http://a"+end)
		checkValid(t, api.Source{Kind: api.SrcHost, Scheme: "https", Sub: true, Host: "a", Port: port, Path: "/:1"}, "https://*.a"+end+"/:1")
		checkValid(t, api.Source{Kind: api.SrcHost, Sub: true, Host: "80", Port: port, Path: "/"}, "*.80"+end+"/")
	}
	for _, port := range badPorts {
		for _, scheme := range []string{"", "http", "https"} {
			checkNotValid(t, api.Source{Kind: api.SrcHost, Scheme: scheme, Host: "a", Port: port})
			checkNotValid(t, api.Source{Kind: api.SrcHost, Scheme: scheme, Sub: true, Host: "a", Port: port, Path: "/"})
		}
		checkNoParse(t, "a:"+strconv.Itoa(port))
		checkNoParse(t, "http://*.a:"+strconv.Itoa(port)+"/b")
	}
	for _, port := range noPorts {
		for _, start := range []string{"a:", "*.a:", "http://a:", "https://*.a.example:"} {
			for _, path := range []string{"", "/", "/b", "/:80", "/:*"} {
				checkNoParse(t, start+port+path)
			}
		}
	}
}

func TestPaths(t *testing.T) {
	starts := map[string]api.Source{
		"a":                {Kind: api.SrcHost, Host: "a"},
		"*.a":              {Kind: api.SrcHost, Sub: true, Host: "a"},
		"a:80":             {Kind: api.SrcHost, Host: "a", Port: 80},
		"a:*":              {Kind: api.SrcHost, Host: "a", Port: -1},
		"http://a":         {Kind: api.SrcHost, Scheme: "http", Host: "a"},
		"https://*.a:8443": {Kind: api.SrcHost, Scheme: "https", Sub: true, Host: "a", Port: 8443},
	}
	for start, x := range starts {
		for _, path := range goodPaths {
			x.Path = path
			checkValid(t, x, start+path)
		}
		for _, path := range badPaths {
			x.Path = path
			checkNotValid(t, x)
			if strings.HasPrefix(path, "/") {
				checkNoParse(t, start+path)
			}
		}
	}
	for start, x := range starts {
		allowed := 0
		for c := range 256 {
			one := text(c)
			in := strings.Contains(pathBytes, one)
			if in {
				allowed++
			}
			for _, path := range []string{"/" + one, "/" + one + "b", "/b" + one, "/b/" + one + "/", "/" + one + one} {
				x.Path = path
				if in {
					checkValid(t, x, start+path)
				} else {
					checkNotValid(t, x)
					checkNoParse(t, start+path)
				}
			}
			if one != "/" {
				x.Path = one
				checkNotValid(t, x)
				x.Path = one + "/"
				checkNotValid(t, x)
			}
		}
		if allowed != 83 {
			t.Errorf("%d bytes may be in a path", allowed)
		}
	}
}

// TestEveryChoice has valid and other values of all fields at once.
func TestEveryChoice(t *testing.T) {
	count := map[bool]int{}
	for kind := -1; kind <= 6; kind++ {
		for _, scheme := range []string{"", "http", "https", "HTTP", "ftp"} {
			for _, sub := range []bool{false, true} {
				for _, name := range []string{"", "a", "A", "*.a", "http"} {
					for _, port := range []int{-2, -1, 0, 1, 80, 65535, 65536} {
						for _, path := range []string{"", "/", "/b", "b", "/?"} {
							for _, nonce := range []string{"", "a", "'"} {
								x := api.Source{Kind: kind, Scheme: scheme, Sub: sub, Host: name, Port: port, Path: path, Nonce: nonce}
								checkGoodPlain(t, x)
								count[plainGood(x)]++
							}
						}
					}
				}
			}
		}
	}
	// Two kinds have one source each; of schemes there are two, of nonces one,
	// and of hosts 3 schemes, 2 values of Sub, 2 names, 5 ports and 3 paths.
	if count[true] != 1+1+2+1+3*2*2*5*3 {
		t.Errorf("%d sources are valid", count[true])
	}
}

func TestParseOthers(t *testing.T) {
	for _, s := range []string{"", " ", "\t", "\n", "\x00", "'", "''", "'a'", "-", ".", "/", ":", "?", "#", "@", "a b", " a", "a ", "a\n", "a,b", "a;", "'self' a", "a 'self'", "* a", "http: https:", "a?", "a?b", "a#b", "a:80?", "a/?b", "u@a", "http://u@a", "http://u:p@a", "http://a@b/", "a:1:2", "a:1:", "a::1", "a:1a", "[::1]:80", "\u00E9", "\xFF", "\xC3\x28", "a\xFF", strings.Repeat("a", 64), strings.Repeat("*", 1000), strings.Repeat("*.", 1000) + "a", strings.Repeat("http://", 100) + "a", strings.Repeat("a:", 1000)} {
		checkNoParse(t, s)
		if _, ok := plainParse(s); ok {
			t.Errorf("the model says otherwise of %.100q", s)
		}
	}
}

// TestNearOthers changes, adds and removes each byte of texts of sources.
func TestNearOthers(t *testing.T) {
	count := map[bool]int{}
	try := func(s string) {
		t.Helper()
		_, ok := checkPlain(t, s)
		count[ok]++
	}
	for _, s := range []string{"'self'", "*", "http:", "https:", "'nonce-aB='", "a.b", "*.a", "a:8", "a:*", "a/B", "http://a", "https://*.a.b:80/C/"} {
		for i := range len(s) + 1 {
			for c := range 256 {
				try(s[:i] + text(c) + s[i:])
				if i < len(s) {
					try(s[:i] + text(c) + s[i+1:])
				}
			}
			if i < len(s) {
				try(s[:i] + s[i+1:])
			}
			try(s[:i])
			try(s[i:])
		}
	}
	if count[true] < 2000 || count[false] < 10000 {
		t.Errorf("of the results %v of Parse, one is hardly tested", count)
	}
}

// TestShortTexts has every text of up to five bytes that may matter.
func TestShortTexts(t *testing.T) {
	var try func(s string)
	count := 0
	try = func(s string) {
		if _, ok := checkPlain(t, s); ok {
			count++
		}
		if len(s) == 5 {
			return
		}
		for _, c := range "aB1*.:/-'?" {
			try(s + string(c))
		}
	}
	try("")
	for _, start := range []string{"http:/", "https:/", "HTTP://", "'nonce-", "'sel", "http"} {
		for _, a := range []string{"", "/", ":", "*", ".", "a", "f", "'", "s"} {
			for _, b := range []string{"", "/", ":", "*", ".", "a", "'", "1"} {
				for _, c := range []string{"", "/", ":", "*", ".", "a", "'", "1"} {
					for _, d := range []string{"", "/", ":", "*", ".", "a", "'", "1"} {
						checkPlain(t, start+a+b+c+d)
					}
				}
			}
		}
	}
	if count < 5000 {
		t.Errorf("only %d short texts are sources", count)
	}
}

func TestMatchStarAndNonce(t *testing.T) {
	for _, to := range someURLs {
		for _, from := range []string{"null", "http://a", "https://a", "http://a:8080"} {
			checkMatches(t, "*", to, from, true, true)
			checkMatches(t, "'nonce-a'", to, from, false, false)
			checkMatches(t, "'nonce-http'", to, from, false, false)
			checkMatches(t, "'nonce-/'", to, from, false, false)
		}
	}
}

var someURLs = []string{
	"http://a/", "http://a", "https://a/", "http://a:443/", "https://a:80/", "http://a:8080/", "https://a:8080/x", "http://b.a/", "https://b.a/x/y", "http://ba/", "http://c.b.a:81/x/", "http://u:p@a/x?y#z", "https://a/x/?/y#/z",
	"http://self/", "http://http/", "http://nonce-a/", "https://b/", "http://a.b/", "http://a/X", "http://a/x", "http://a/x/", "http://a//x", "http://a:1/", "https://a:65535/",
}

func TestMatchScheme(t *testing.T) {
	for _, from := range []string{"null", "http://a", "https://a", "https://b:8"} {
		for _, rest := range []string{"a/", "a:8080/", "b.a/x?y", "a:1/http:", "u@a:65535/#"} {
			checkMatches(t, "http:", "http://"+rest, from, true, true)
			checkMatches(t, "http:", "https://"+rest, from, true, true)
			checkMatches(t, "https:", "http://"+rest, from, false, false)
			checkMatches(t, "https:", "https://"+rest, from, true, true)
		}
	}
}

func TestMatchSelf(t *testing.T) {
	for _, one := range []struct {
		to, from string
		want     bool
	}{
		// Equal origins, whatever else the URL says.
		{"http://a/", "http://a", true}, {"http://a:80/x", "http://a", true}, {"http://u:p@a/x?y#z", "http://a", true}, {"https://a/", "https://a", true},
		{"http://a:443/", "http://a:443", true}, {"https://a:80/", "https://a:80", true}, {"http://a:8080/", "http://a:8080", true}, {"https://a:8080/", "https://a:8080", true}, {"HTTP://A.Example", "http://a.example", true},
		// Another host.
		{"http://b/", "http://a", false}, {"http://b.a/", "http://a", false}, {"http://a/", "http://b.a", false}, {"http://ba/", "http://a", false}, {"https://b/", "http://a", false}, {"https://b.a/", "http://a", false}, {"https://a/", "http://b.a", false}, {"https://b/", "https://a", false},
		// Another port.
		{"http://a:81/", "http://a", false}, {"http://a/", "http://a:81", false}, {"http://a:443/", "http://a", false}, {"http://a/", "http://a:443", false}, {"https://a:444/", "https://a", false}, {"https://a:80/", "https://a", false}, {"https://a/", "https://a:80", false}, {"http://a:8080/", "http://a:8081", false},
		// From http to https, with the default ports alone.
		{"https://a/", "http://a", true}, {"https://a:443/x?y", "http://a", true}, {"https://u@a/", "http://a", true},
		{"https://a:80/", "http://a", false}, {"https://a:8443/", "http://a", false}, {"https://a/", "http://a:443", false}, {"https://a/", "http://a:8080", false}, {"https://a:80/", "http://a:443", false}, {"https://a:8080/", "http://a:8080", false}, {"https://a:444/", "http://a:81", false},
		// Never from https to http.
		{"http://a/", "https://a", false}, {"http://a:443/", "https://a", false}, {"http://a/", "https://a:80", false}, {"http://a:443/", "https://a:80", false}, {"http://a:8080/", "https://a:8080", false},
		{"http://a/", "null", false}, {"https://a/", "null", false}, {"http://null/", "null", false}, {"https://null/", "null", false}, {"http://null/", "http://null", true},
	} {
		checkMatches(t, "'self'", one.to, one.from, one.want, one.want)
	}
}

// TestMatchOfTheChapter is its example.
func TestMatchOfTheChapter(t *testing.T) {
	for _, from := range []string{"http://a.example", "http://example", "http://b"} {
		checkMatches(t, "*.example", "http://a.example/", from, true, true)
		checkMatches(t, "*.example", "http://example/", from, false, false)
	}
}

func TestMatchHostScheme(t *testing.T) {
	for _, one := range []struct {
		source, to, from string
		want             bool
	}{
		{"http://a", "http://a/", "https://b", true}, {"http://a", "https://a/", "https://b", true}, {"https://a", "https://a/", "http://b", true}, {"https://a", "http://a/", "http://b", false},
		{"http://a", "http://a/", "null", true}, {"http://a", "https://a/", "null", true}, {"https://a", "https://a/", "null", true}, {"https://a", "http://a/", "null", false},
		{"a", "http://a/", "http://b", true}, {"a", "https://a/", "http://b", true}, {"a", "https://a/", "https://b", true}, {"a", "http://a/", "https://b", false}, {"a", "http://a/", "null", false}, {"a", "https://a/", "null", false},
		{"a", "http://a/", "http://b:8", true}, {"a", "https://a/", "http://b:8", true}, {"a", "https://a/", "https://b:80", true}, {"a", "http://a/", "https://b:80", false},
		{"a", "http://a/", "https://a", false}, {"a", "http://a/", "https://a:80", false},
		{"*.a", "http://b.a/", "null", false}, {"*.a", "https://b.a/", "null", false}, {"a:*", "http://a/", "null", false}, {"a:80", "http://a/", "null", false}, {"a/", "https://a/", "null", false},
		{"https://a:*", "http://a:443/", "http://a", false}, {"https://a:80", "http://a/", "http://a", false}, {"https://*.a", "http://b.a/", "http://a", false},
		{"a:*", "http://a:8/", "https://b", false}, {"a:80", "http://a/", "https://b", false}, {"*.a/x/", "http://b.a/x/", "https://b", false},
	} {
		checkMatches(t, one.source, one.to, one.from, one.want, one.want)
	}
}

func TestMatchHostNames(t *testing.T) {
	for _, one := range []struct {
		source, to string
		want       bool
	}{
		{"a.b", "http://a.b/", true}, {"A.b", "http://a.B/", true}, {"a.b", "http://c.a.b/", false}, {"a.b", "http://b/", false}, {"a.b", "http://xa.b/", false}, {"a.b", "http://a.bx/", false}, {"a.b", "http://a.b.c/", false}, {"a.b", "http://a-b/", false}, {"a.b", "http://c/", false}, {"b", "http://a.b/", false},
		{"*.a.b", "http://a.b/", false}, {"*.a.b", "http://c.a.b/", true}, {"*.A.b", "http://C.a.B/", true}, {"*.a.b", "http://d.c.a.b/", true}, {"*.a.b", "http://xa.b/", false}, {"*.a.b", "http://x.xa.b/", false}, {"*.a.b", "http://b/", false}, {"*.a.b", "http://c.b/", false}, {"*.a.b", "http://a.b.c/", false}, {"*.a.b", "http://c-a.b/", false}, {"*.a.b", "http://a.b.a.b/", true}, {"*.a.b", "http://c.a.b.d/", false},
		{"*.b", "http://b.b/", true}, {"*.b", "http://a.b/", true}, {"*.b", "http://ab/", false}, {"*.b", "http://b/", false}, {"*.b", "http://b.c/", false}, {"*.1", "http://127.0.0.1/", true}, {"*.1", "http://11/", false},
	} {
		for _, source := range []string{one.source, "http://" + one.source, one.source + ":80", one.source + ":*", one.source + "/"} {
			checkMatches(t, source, one.to, "http://x", one.want, one.want)
		}
	}
	long := strings.Repeat("a.", 126) + "a"
	checkMatches(t, "*.a", "http://"+long, "http://x", true, true)
	checkMatches(t, "*."+long[2:], "http://"+long, "http://x", true, true)
	checkMatches(t, "*."+long, "http://"+long, "http://x", false, false)
	checkMatches(t, long, "http://"+long, "http://x", true, true)
}

func TestMatchPorts(t *testing.T) {
	for _, one := range []struct {
		source, to string
		want       bool
	}{
		// Any port.
		{"a:*", "http://a/", true}, {"a:*", "https://a/", true}, {"a:*", "http://a:8/", true}, {"a:*", "https://a:80/", true}, {"a:*", "http://a:443/", true}, {"a:*", "https://a:65535/", true}, {"a:*", "http://a:1/", true},
		// None said.
		{"a", "http://a/", true}, {"a", "http://a:80/", true}, {"a", "https://a/", true}, {"a", "https://a:443/", true}, {"a", "http://a:443/", false}, {"a", "https://a:80/", false}, {"a", "http://a:8080/", false}, {"a", "https://a:8443/", false}, {"a", "http://a:81/", false}, {"a", "https://a:442/", false},
		// Equal and unequal.
		{"a:80", "http://a/", true}, {"a:443", "https://a/", true}, {"a:8080", "http://a:8080/", true}, {"a:8080", "https://a:8080/", true}, {"a:443", "http://a:443/", true}, {"a:80", "https://a:80/", true}, {"a:1", "http://a:1/", true}, {"a:65535", "https://a:65535/", true},
		{"a:8080", "http://a/", false}, {"a:8080", "https://a/", false}, {"a:81", "http://a/", false}, {"a:79", "http://a/", false}, {"a:80", "http://a:81/", false}, {"a:8080", "http://a:8081/", false}, {"a:1", "http://a:65535/", false}, {"a:81", "https://a/", false}, {"a:79", "https://a/", false},
		// 80 takes 443 with https, not the other way round.
		{"a:80", "https://a/", true}, {"a:80", "https://a:443/", true}, {"a:80", "http://a:443/", false}, {"a:80", "https://a:444/", false}, {"a:80", "https://a:8443/", false}, {"a:443", "http://a/", false}, {"a:443", "https://a:80/", false}, {"a:443", "http://a:80/", false},
	} {
		for _, source := range []string{one.source, "http://" + one.source, one.source + "/"} {
			for _, from := range []string{"http://x", "http://a:8080"} {
				checkMatches(t, source, one.to, from, one.want, one.want)
			}
		}
		if strings.HasPrefix(one.to, "https") {
			checkMatches(t, "https://"+one.source, one.to, "http://x", one.want, one.want)
			checkMatches(t, one.source, one.to, "https://x", one.want, one.want)
		}
	}
}

// TestMatchEveryPort has each port against the ports that are special.
func TestMatchEveryPort(t *testing.T) {
	self := api.Origin{Scheme: "http", Host: "x", Port: 80}
	for port := 1; port <= 65535; port++ {
		for scheme, usual := range map[string]int{"http": 80, "https": 443} {
			u := api.URL{Scheme: scheme, Host: "a", Port: port, Path: "/"}
			if port == usual {
				u.Port = 0
			}
			checkMatch(t, api.Source{Kind: api.SrcHost, Host: "a"}, u, self, false, port == usual)
			checkMatch(t, api.Source{Kind: api.SrcHost, Host: "a", Port: -1}, u, self, false, true)
			checkMatch(t, api.Source{Kind: api.SrcHost, Host: "a", Port: 80}, u, self, false, port == 80 || scheme == "https" && port == 443)
			checkMatch(t, api.Source{Kind: api.SrcHost, Host: "a", Port: 443}, u, self, false, port == 443)
			checkMatch(t, api.Source{Kind: api.SrcHost, Host: "a", Port: port}, u, self, false, true)
			checkMatch(t, api.Source{Kind: api.SrcHost, Host: "a", Port: port%65535 + 1}, u, self, false, false)
			// The other way round: each port of a source against the default.
			plain := api.URL{Scheme: scheme, Host: "a", Path: "/"}
			checkMatch(t, api.Source{Kind: api.SrcHost, Host: "a", Port: port}, plain, self, false, port == usual || port == 80)
			checkMatch(t, api.Source{Kind: api.SrcSelf}, u, api.Origin{Scheme: scheme, Host: "a", Port: port}, false, true)
			checkMatch(t, api.Source{Kind: api.SrcSelf}, u, api.Origin{Scheme: "http", Host: "a", Port: 80}, false, port == usual)
			checkMatch(t, api.Source{Kind: api.SrcSelf}, u, api.Origin{Scheme: "https", Host: "a", Port: 443}, false, scheme == "https" && port == 443)
			checkMatch(t, api.Source{Kind: api.SrcSelf}, plain, api.Origin{Scheme: "http", Host: "a", Port: port}, false, port == 80)
		}
	}
}

func TestMatchPaths(t *testing.T) {
	for _, one := range []struct {
		path, to string
		want     bool
	}{
		{"", "/", true}, {"", "/b", true}, {"", "/b/c?d", true}, {"", "", true},
		{"/", "/", true}, {"/", "", true}, {"/", "/b", true}, {"/", "/b/c", true}, {"/", "//", true}, {"/", "/?b", true},
		{"/b", "/b", true}, {"/b", "/b?c", true}, {"/b", "/b#c", true}, {"/b", "/b?/", true}, {"/b", "/", false}, {"/b", "", false}, {"/b", "/B", false}, {"/B", "/b", false}, {"/b", "/b/", false}, {"/b", "/b/c", false}, {"/b", "/bc", false}, {"/b", "/c", false}, {"/b", "/c/b", false}, {"/b", "//b", false}, {"/b", "/?b", false}, {"/b", "/%62", false}, {"/%62", "/b", false}, {"/%62", "/%62", true},
		{"/b/", "/b/", true}, {"/b/", "/b/c", true}, {"/b/", "/b/c/d", true}, {"/b/", "/b//", true}, {"/b/", "/b", false}, {"/b/", "/b?/", false}, {"/b/", "/", false}, {"/b/", "/B/", false}, {"/b/", "/bc/", false}, {"/b/", "/c/b/", false}, {"/b/", "/c", false}, {"/b/", "//b/", false}, {"/b/", "/b/?c", true}, {"/b/", "/b/../c", true}, {"/b/", "/%62/", false}, {"/b/", "/b%2Fc", false},
		{"/b/c", "/b/c", true}, {"/b/c", "/b/", false}, {"/b/c", "/b", false}, {"/b/c", "/b/c/", false}, {"/b/c", "/b/cd", false}, {"/b/c/", "/b/c/d", true}, {"/b/c/", "/b/c", false}, {"/b/c/", "/b/d/c/", false},
		{"//", "/", false}, {"//", "//", true}, {"//", "//b", true}, {"//", "/b/", false}, {"/b//", "/b/", false}, {"/b//", "/b//c", true},
		{"/*", "/b", false}, {"/*", "/*", true}, {"/b/*", "/b/c", false}, {"/.", "/b", false}, {"/b.c", "/bxc", false}, {"/b/.", "/b/", false},
	} {
		for _, start := range []string{"a", "http://a", "a:80", "a:*"} {
			checkMatches(t, start+one.path, "http://a"+one.to, "http://x", one.want, true)
			checkMatches(t, start+one.path, "https://u:p@a"+one.to, "http://x", one.want, true)
			checkMatches(t, start+one.path, "http://b"+one.to, "http://x", false, false)
		}
		checkMatches(t, "*.a"+one.path, "http://b.a"+one.to, "http://x", one.want, true)
		checkMatches(t, "*.a"+one.path, "http://a"+one.to, "http://x", false, false)
		checkMatches(t, "https://a"+one.path, "http://a"+one.to, "http://x", false, false)
		checkMatches(t, "a:81"+one.path, "http://a"+one.to, "http://x", false, false)
	}
	// A path may be longer than that of any URL.
	long := "/" + strings.Repeat("p", 2000)
	checkMatches(t, "a"+long, "http://a/", "http://x", false, true)
	checkMatches(t, "a"+long+"/", "http://a"+long[:1000], "http://x", false, true)
}

// TestMatchEveryChoice compares all choices with the model.
func TestMatchEveryChoice(t *testing.T) {
	texts := []string{"'self'", "*", "http:", "https:", "'nonce-a'"}
	for _, scheme := range []string{"", "http://", "https://"} {
		for _, name := range []string{"a", "*.a", "b.a", "*.b.a"} {
			for _, port := range []string{"", ":*", ":80", ":443", ":81"} {
				for _, path := range []string{"", "/", "/x", "/x/"} {
					texts = append(texts, scheme+name+port+path)
				}
			}
		}
	}
	var selves []api.Origin
	for _, from := range []string{"null", "http://a", "https://a", "http://a:443", "https://a:80", "http://b.a", "https://b.a:81"} {
		self, e := origin.Parse(from)
		if e != api.OK {
			t.Fatal(from)
		}
		selves = append(selves, self)
	}
	var urls []api.URL
	for _, scheme := range []string{"http://", "https://"} {
		for _, name := range []string{"a", "b.a", "c.b.a", "ba"} {
			for _, port := range []string{"", ":80", ":443", ":81"} {
				for _, path := range []string{"/", "/x", "/x/", "/x/y", "/xy"} {
					u, e := url.Parse(scheme + name + port + path)
					if e != api.OK {
						t.Fatal(scheme + name + port + path)
					}
					urls = append(urls, u)
				}
			}
		}
	}
	count := map[bool]int{}
	for _, text := range texts {
		x, ok := Parse(text)
		if !ok {
			t.Fatalf("%q is no source", text)
		}
		for _, u := range urls {
			for _, self := range selves {
				for _, moved := range []bool{false, true} {
					want := plainMatch(x, u, self, moved)
					checkMatch(t, x, u, self, moved, want)
					count[want]++
				}
			}
		}
	}
	if count[true] < 20000 || count[false] < 20000 {
		t.Errorf("of the results %v of Match, one is hardly tested", count)
	}
}

// TestMatchOfAnything only checks that calls end for which nothing is promised.
func TestMatchOfAnything(t *testing.T) {
	for _, x := range append(ofKinds(), api.Source{}, api.Source{Kind: math.MinInt, Port: math.MaxInt}, api.Source{Kind: api.SrcHost, Scheme: "\xFF", Host: "*", Port: math.MinInt, Path: "x"}) {
		for _, u := range []api.URL{{}, {Scheme: "ftp", Host: "-", Port: math.MinInt, Path: "\xFF"}, {Scheme: "http", Host: "a", Port: math.MaxInt}} {
			for _, self := range []api.Origin{{}, {Scheme: "ftp"}, {Host: "a", Port: -1}} {
				Match(x, u, self, false)
				Match(x, u, self, true)
			}
		}
	}
}

func pick(r *rand.Rand, texts ...string) string {
	return texts[r.Intn(len(texts))]
}

// randomText returns the text of a source, or one that is near to it.
func randomText(r *rand.Rand) string {
	s := pick(r, "", "", "http://", "HTTPS://", "https://") + pick(r, "", "", "*.") + pick(r, "a", "b.a", "A", "c.b.a", "http") + pick(r, "", "", ":*", ":80", ":443", ":"+strconv.Itoa(r.Intn(70000))) + pick(r, "", "", "/", "/x", "/x/", "/X/y", "/x://y")
	if r.Intn(6) == 0 {
		s = pick(r, "'self'", "'SELF'", "*", "HTTP:", "https:", "'nonce-"+pick(r, "a", "A=", "/+_-", "")+"'")
	}
	for range r.Intn(3) / 2 {
		place := r.Intn(len(s) + 1)
		s = s[:place] + pick(r, "a", "/", ":", "*", ".", "'", "-", "0", "?", " ", "\xFF") + s[min(len(s), place+r.Intn(2)):]
	}
	return s
}

func TestRandom(t *testing.T) {
	r := rand.New(rand.NewSource(11))
	parsed, matched := map[bool]int{}, map[bool]int{}
	for range 60000 {
		x, ok := checkPlain(t, randomText(r))
		parsed[ok]++
		if !ok {
			continue
		}
		u, e := url.Parse(pick(r, "http://", "https://") + pick(r, "a", "b.a", "c.b.a", "http", "ba") + pick(r, "", "", ":80", ":443", ":8") + pick(r, "/", "/x", "/x/", "/x/y", "/X/y"))
		self, e2 := origin.Parse(pick(r, "null", "http://a", "http://b.a", "https://a", "http://a:8", "https://c.b.a:80"))
		if e != api.OK || e2 != api.OK {
			t.Fatal("the test has a wrong URL or origin")
		}
		moved := r.Intn(2) == 0
		want := plainMatch(x, u, self, moved)
		checkMatch(t, x, u, self, moved, want)
		matched[want]++
	}
	if parsed[true] < 20000 || parsed[false] < 5000 || matched[true] < 3000 || matched[false] < 10000 {
		t.Errorf("of the results %v and %v, one is hardly tested", parsed, matched)
	}
}

func TestNothingIsKept(t *testing.T) {
	for range 3 {
		checkParse(t, "HTTPS://*.A:8/B", api.Source{Kind: api.SrcHost, Scheme: "https", Sub: true, Host: "a", Port: 8, Path: "/B"})
		checkNoParse(t, "a:0")
		checkParse(t, "a", api.Source{Kind: api.SrcHost, Host: "a"})
		checkNotValid(t, api.Source{})
		checkValid(t, api.Source{Kind: api.SrcNonce, Nonce: "A"}, "'nonce-A'")
		checkMatches(t, "'self'", "https://a/", "http://a", true, true)
		checkMatches(t, "'self'", "http://a/", "https://a", false, false)
		checkMatches(t, "a/b", "http://a/c", "http://a", false, true)
	}
}

// FuzzSource takes a source as text, and another one as fields.
func FuzzSource(f *testing.F) {
	f.Add("https://*.a:*/b", "http://b.a/b", "http://a", 4, "http", true, "a", 80, "/b/", "")
	f.Add("'NONCE-aB='", "https://a/", "null", 5, "", false, "", 0, "", "a+/_-=")
	f.Add("'Self'", "https://a:443/x", "http://a", 1, "", false, "", 0, "", "")
	f.Add("http:", "https://a:8", "https://a:8", 3, "https", false, "", 0, "", "")
	f.Add("a:80/x/", "http://a/x/y", "http://b", 2, "", false, "", -1, "/?", "'")
	f.Fuzz(func(t *testing.T, s, to, from string, kind int, scheme string, sub bool, name string, port int, path, nonce string) {
		x := api.Source{Kind: kind, Scheme: scheme, Sub: sub, Host: name, Port: port, Path: path, Nonce: nonce}
		checkGoodPlain(t, x)
		parsed, ok := checkPlain(t, s)
		u, e := url.Parse(to)
		self, e2 := origin.Parse(from)
		if e != api.OK || e2 != api.OK {
			return
		}
		for _, moved := range []bool{false, true} {
			if ok {
				checkMatch(t, parsed, u, self, moved, plainMatch(parsed, u, self, moved))
			}
			if plainGood(x) {
				checkMatch(t, x, u, self, moved, plainMatch(x, u, self, moved))
			}
		}
	})
}
