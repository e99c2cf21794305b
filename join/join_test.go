package join

import (
	"math/rand"
	"regexp"
	"strings"
	"testing"

	"pursuivant/api"
	"pursuivant/url"
)

// words puts together up to so many pieces in every order.
func words(pieces []string, most int) []string {
	all, last := []string{""}, []string{""}
	for range most {
		var longer []string
		for _, before := range last {
			for _, piece := range pieces {
				longer = append(longer, before+piece)
			}
		}
		all, last = append(all, longer...), longer
	}
	return all
}

// plainPath rewrites the text itself, without a list of parts.
func plainPath(s string) string {
	start := strings.Index(s, "/")
	if start < 0 {
		return s
	}
	first, rest := s[:start], s[start:]
	if strings.HasSuffix(rest, "/.") || strings.HasSuffix(rest, "/..") {
		rest += "/"
	}
	for strings.Contains(rest, "/./") {
		rest = strings.ReplaceAll(rest, "/./", "/")
	}
	for {
		before, after, found := strings.Cut(rest, "/../")
		if !found {
			return first + rest
		}
		if last := strings.LastIndex(before, "/"); last >= 0 {
			before = before[:last]
		}
		rest = before + "/" + after
	}
}

// A [^..] also stands for a byte that is no UTF-8.
var (
	baseForm      = regexp.MustCompile(`\A(https?:)(//[^/]*)(/[^?#]*)(\?[^#]*)?(#.*)?\z`)
	referenceForm = regexp.MustCompile(`(?s)\A([^:/?#]*:)?(//[^/?#]*)?([^?#]*)(\?[^#]*)?(#.*)?\z`)
	lastForm      = regexp.MustCompile(`[^/]*\z`)
)

// plainText composes the text that Parse is given, from the parts of both texts,
// or returns false for the case of a colon.
func plainText(base api.URL, s string) (string, bool) {
	from, to := baseForm.FindStringSubmatch(url.Text(base)), referenceForm.FindStringSubmatch(s)
	if to[1] != "" {
		return "", false
	}
	scheme, authority, path, query, frag := from[1], to[2], to[3], to[4], to[5]
	if authority != "" {
		return scheme + s, true
	}
	switch {
	case path == "" && query == "":
		path, query = from[3], from[4]
	case path == "":
		path = from[3]
	case path[0] == 47:
		path = plainPath(path)
	default:
		path = plainPath(lastForm.ReplaceAllString(from[3], "") + path)
	}
	return scheme + from[2] + path + query + frag, true
}

// plainResolve also returns the text that it has parsed.
func plainResolve(base api.URL, s string) (api.URL, api.Errno, string) {
	if u, e := url.Parse(s); e == api.OK {
		return u, e, s
	}
	text, ok := plainText(base, s)
	if !ok {
		return api.URL{}, api.ErrText, ""
	}
	u, e := url.Parse(text)
	return u, e, text
}

func checkPath(t *testing.T, s, want string) {
	t.Helper()
	if got := Path(s); got != want {
		t.Errorf("Path(%.200q) = %.200q, want %.200q", s, got, want)
	}
}

// checkResolve compares with the parts of a text, which may differ from it in
// the case of the scheme and the host.
func checkResolve(t *testing.T, base api.URL, s, want string) {
	t.Helper()
	wanted, e := url.Parse(want)
	if e != api.OK {
		t.Fatalf("%.200q is no URL", want)
	}
	if u, e := Resolve(base, s); u != wanted || e != api.OK {
		t.Errorf("Resolve(%.200q, %.200q) = %.200q, %d, want %.200q, OK", url.Text(base), s, url.Text(u), e, want)
	}
}

func checkNoResolve(t *testing.T, base api.URL, s string, want api.Errno) {
	t.Helper()
	if u, e := Resolve(base, s); u != (api.URL{}) || e != want {
		t.Errorf("Resolve(%.200q, %.200q) = %.200q, %d, want the zero URL, %d", url.Text(base), s, url.Text(u), e, want)
	}
}

func checkPlain(t *testing.T, base api.URL, s string) api.Errno {
	t.Helper()
	want, wantError, _ := plainResolve(base, s)
	if u, e := Resolve(base, s); u != want || e != wantError {
		t.Errorf("Resolve(%.200q, %.200q) = %.200q, %d, want %.200q, %d", url.Text(base), s, url.Text(u), e, url.Text(want), wantError)
	}
	return wantError
}

// must returns the parts of a valid text.
func must(s string) api.URL {
	u, e := url.Parse(s)
	if e != api.OK {
		panic("no URL: " + s)
	}
	return u
}

// shape is a base, with its text up to the path and that of its query.
type shape struct {
	base   api.URL
	scheme string
	before string
	query  string
}

// shapes returns bases of a path with and without a user, a port, a query and a
// fragment.
func shapes(path string) []shape {
	var out []shape
	for _, scheme := range []string{"http", "https"} {
		for _, user := range []string{"", "u@", "me:pw!@"} {
			for _, port := range []string{"", ":8443", ":1"} {
				for _, query := range []string{"", "?", "?q", "?q/../r/./s?/t:u"} {
					for _, frag := range []string{"", "#", "#f", "#f/../g/./h?/i#:j"} {
						before := scheme + "://" + user + "a.example" + port
						out = append(out, shape{must(before + path + query + frag), scheme, before, query})
					}
				}
			}
		}
	}
	return out
}

func TestPathWithoutSlash(t *testing.T) {
	for _, s := range []string{"", "a", ".", "..", "...", "....", ".a", "a.", "..a", "a..", "a.b", "a..b", " ", "?", "#", ":", "\\", "..\\a", "%2e", "%2e%2e", "\x00", "\xFF", "\u00E9", "\u2024", "\u2215", strings.Repeat(".", 5000)} {
		checkPath(t, s, s)
	}
	for c := range 256 {
		if c != 47 {
			s := string([]byte{byte(c)})
			checkPath(t, s, s)
			checkPath(t, ".."+s, ".."+s)
		}
	}
}

func TestPathKnown(t *testing.T) {
	for s, want := range map[string]string{
		// before the first /
		"./": "./", "../": "../", "./a": "./a", "../a": "../a", "../..": "../", "./.": "./", "./..": "./", "../.": "../", "../../..": "../", "./../a": "./a", ".././a": "../a", "a/..": "a/", "a/../..": "a/", "a/../b": "a/b", "a/../../b": "a/b", "a/.": "a/", "a/./b": "a/b", "a/b/../..": "a/", "a/b/../../../c": "a/c", "a/": "a/", "a/b": "a/b",
		// the first part
		"/.": "/", "/./": "/", "/./a": "/a", "/./a/b": "/a/b", "/..": "/", "/../": "/", "/../a": "/a", "/../a/b": "/a/b",
		// a middle part
		"/a/./b": "/a/b", "/a/././b": "/a/b", "/a/./": "/a/", "/a/../b": "/b", "/a/../": "/", "/a/b/../c": "/a/c", "/a/b/../c/d": "/a/c/d", "/a/b/../../c": "/c", "/a/./../b": "/b", "/a/.././b": "/b", "/a/b/./../c": "/a/c", "/a/b/.././c": "/a/c", "/a/../b/../c": "/c",
		// the very last part
		"/a/.": "/a/", "/a/./.": "/a/", "/a/..": "/", "/a/b/.": "/a/b/", "/a/b/..": "/a/", "/a/b/../..": "/", "/a/b/./..": "/a/", "/a/b/../.": "/a/", "/a/b/c/..": "/a/b/",
		// more than there are parts before them
		"/../..": "/", "/../../": "/", "/../../a": "/a", "/a/../..": "/", "/a/../../": "/", "/a/../../b": "/b", "/a/../../..": "/", "/a/b/../../../c": "/c", "/../a/../../b": "/b", "/./../.": "/", "/.././..": "/", "/../../../../..": "/", "x/../../../y": "x/y",
		// empty parts
		"/": "/", "//": "//", "///": "///", "////": "////", "//a": "//a", "/a//": "/a//", "/a//b": "/a//b", "/a///b": "/a///b", "a//b": "a//b", "a//": "a//", "//.": "//", "//./": "//", "//..": "/", "//../": "/", "//../a": "/a", "///..": "//", "///../": "//", "///../a": "//a", "///../..": "/", "/a//..": "/a/", "/a//../": "/a/", "/a//../b": "/a/b", "/a//../../b": "/b", "/a///../b": "/a//b", "/a/..//b": "//b", "/..//": "//", "/..//a": "//a", "/.//a": "//a", "/.//..": "/", "/a/.//b": "/a//b", "/a//./b": "/a//b", "a//..": "a/", "a//../..": "a/",
		// parts that only begin or end with dots
		"/...": "/...", "/.../": "/.../", "/....": "/....", "/.a": "/.a", "/a.": "/a.", "/..a": "/..a", "/a..": "/a..", "/.a/": "/.a/", "/a./b": "/a./b", "/..a/b": "/..a/b", "/a../b": "/a../b", "/a/...": "/a/...", "/a/.../b": "/a/.../b", "/.../..": "/", "/.../../a": "/a", "/..a/..": "/", "/a../..": "/", "/.a/.": "/.a/", "/a./..": "/", "/ .": "/ .", "/. ": "/. ", "/.. ": "/.. ", "/.%2e": "/.%2e", "/%2e/a": "/%2e/a", "/%2E%2e/a": "/%2E%2e/a", "/..;/a": "/..;/a", "/.;/a": "/.;/a", "/..\x00": "/..\x00", "/.\xFF": "/.\xFF", "/\uFF0E": "/\uFF0E",
		// other bytes than / end no part
		"/a\\..\\b": "/a\\..\\b", "/a?/../b": "/b", "/a/..?b": "/a/..?b", "/a/..#b": "/a/..#b", "/a?b/../c": "/c", "/a#b/..": "/", "/\xFF/../\x00": "/\x00", "/\u00E9/./\u00E9": "/\u00E9/\u00E9",
		// of RFC 3986
		"/a/b/c/./../../g": "/a/g", "mid/content=5/../6": "mid/6",
	} {
		checkPath(t, s, want)
	}
}

func TestPathEveryOrder(t *testing.T) {
	for _, pieces := range [][]string{
		{"/", ".", "a"},
		{"/", "..", "a", "."},
		{"/.", "/..", "/", "/a", "/b"},
	} {
		for _, s := range words(pieces, 7) {
			checkPath(t, s, plainPath(s))
		}
	}
}

func TestPathOfEveryByte(t *testing.T) {
	for c := range 256 {
		s := string([]byte{byte(c)})
		for _, around := range [][2]string{{"", ""}, {"/", ""}, {"/", "/"}, {"/.", ""}, {"/", "."}, {"/.", "."}, {"/..", ""}, {"/a/", "/../b"}, {"/a", "../b"}, {"/a/..", "b"}, {"/a/..", ""}, {"", "/.."}, {"", "../a"}} {
			checkPath(t, around[0]+s+around[1], plainPath(around[0]+s+around[1]))
		}
		if c != 46 && c != 47 {
			checkPath(t, "/"+s+"/../x/"+s+"/./"+s, "/x/"+s+"/"+s)
			checkPath(t, "/x/."+s+"/"+s+"."+"/.."+s+"/"+s+"..", "/x/."+s+"/"+s+"."+"/.."+s+"/"+s+"..")
		}
	}
}

func TestPathOfItsResults(t *testing.T) {
	r := rand.New(rand.NewSource(7))
	pieces := []string{"/", "/", "/.", "/..", "/../", ".", "..", "a", "b"}
	for range 20000 {
		s := ""
		for range r.Intn(30) {
			s += pieces[r.Intn(len(pieces))]
		}
		once := Path(s)
		checkPath(t, s, plainPath(s))
		checkPath(t, once, once)
		if first, rest, found := strings.Cut(once, "/"); found {
			if !strings.HasPrefix(s, first+"/") {
				t.Errorf("Path(%q) = %q changes what is before the first /", s, once)
			}
			for _, part := range strings.Split(rest, "/") {
				if part == "." || part == ".." {
					t.Errorf("Path(%q) = %q has a dot segment", s, once)
				}
			}
		}
	}
}

func TestPathOfMany(t *testing.T) {
	for _, many := range []int{1, 2, 3, 255, 256, 257, 1000, 20000} {
		checkPath(t, strings.Repeat("/a", many)+strings.Repeat("/..", many), "/")
		checkPath(t, strings.Repeat("/a", many+1)+strings.Repeat("/..", many), "/a/")
		checkPath(t, strings.Repeat("/a", many)+strings.Repeat("/..", many+1), "/")
		checkPath(t, strings.Repeat("/a/..", many), "/")
		checkPath(t, strings.Repeat("/..", many)+"/b", "/b")
		checkPath(t, strings.Repeat("/.", many), "/")
		checkPath(t, strings.Repeat("/", many), strings.Repeat("/", many))
		checkPath(t, strings.Repeat("/", many)+"..", strings.Repeat("/", max(1, many-1)))
		checkPath(t, "x"+strings.Repeat("/..", many), "x/")
	}
}

func TestResolveKnown(t *testing.T) {
	checkResolve(t, must("http://a/b/c"), "../d?e", "http://a/d?e") // of the chapter

	// of RFC 3986, but for the references with a scheme alone
	base := must("http://a/b/c/d;p?q")
	for s, want := range map[string]string{
		"g": "http://a/b/c/g", "./g": "http://a/b/c/g", "g/": "http://a/b/c/g/", "/g": "http://a/g", "//g": "http://g", "?y": "http://a/b/c/d;p?y", "g?y": "http://a/b/c/g?y", "#s": "http://a/b/c/d;p?q#s", "g#s": "http://a/b/c/g#s", "g?y#s": "http://a/b/c/g?y#s", ";x": "http://a/b/c/;x", "g;x": "http://a/b/c/g;x", "g;x?y#s": "http://a/b/c/g;x?y#s", "": "http://a/b/c/d;p?q", ".": "http://a/b/c/", "./": "http://a/b/c/", "..": "http://a/b/", "../": "http://a/b/", "../g": "http://a/b/g", "../..": "http://a/", "../../": "http://a/", "../../g": "http://a/g",
		"../../../g": "http://a/g", "../../../../g": "http://a/g", "/./g": "http://a/g", "/../g": "http://a/g", "g.": "http://a/b/c/g.", ".g": "http://a/b/c/.g", "g..": "http://a/b/c/g..", "..g": "http://a/b/c/..g", "./../g": "http://a/b/g", "./g/.": "http://a/b/c/g/", "g/./h": "http://a/b/c/g/h", "g/../h": "http://a/b/c/h", "g;x=1/./y": "http://a/b/c/g;x=1/y", "g;x=1/../y": "http://a/b/c/y", "g?y/./x": "http://a/b/c/g?y/./x", "g?y/../x": "http://a/b/c/g?y/../x", "g#s/./x": "http://a/b/c/g#s/./x", "g#s/../x": "http://a/b/c/g#s/../x",
	} {
		checkResolve(t, base, s, want)
	}
	for _, s := range []string{"g:h", "http:g"} {
		checkNoResolve(t, base, s, api.ErrText)
	}
}

// TestResolveURLs has references that are parsed alone, whose parts . and ..
// therefore remain.
func TestResolveURLs(t *testing.T) {
	for _, of := range shapes("/b/c") {
		for _, s := range []string{
			"http://h", "https://h", "HTTP://H", "hTTpS://H:443", "http://h:80/", "https://h:80", "http://h/../x", "http://h/./x/..", "https://h//x", "http://h?", "http://h#", "http://h?a/../b#c/../d", "http://u:p@h:8080/x?y#z", "http://h/http://i", "http://a.example/b/c", "https://a.example/b/c",
		} {
			checkResolve(t, of.base, s, s)
		}
	}
	for _, u := range shapes("/b/../c/./d/") {
		checkResolve(t, must("http://z"), url.Text(u.base), url.Text(u.base))
	}
}

// TestResolveOtherHost is the case of //.
func TestResolveOtherHost(t *testing.T) {
	for _, of := range shapes("/b/c") {
		for _, s := range []string{
			"//h", "//H", "//h/", "//h.i", "//h:8", "//h:80", "//h:443", "//u@h", "//u:p@h:8", "//h/x", "//h/x/../y", "//h/./x/..", "//h//x", "//h?", "//h?y", "//h?y/../z", "//h#", "//h#s", "//h#s/../r", "//h/x?y#s", "//h?y#s?r", "//h#s?y", "//a.example", "//h/:x", "//h?:", "//h#:", "//h/x:y@z", "//127.0.0.1/x",
		} {
			checkResolve(t, of.base, s, of.scheme+":"+s)
		}
		for _, s := range []string{
			"//", "///", "///x", "////", "//?", "//#", "//?y", "//#s", "//..", "//.", "//../x", "//./x", "//a..b", "//-h", "//h_i", "//h i", "//[::1]", "//h:", "//h:/", "//h:0", "//h:080", "//h:65536", "//h:x", "//h:1:2", "//@h", "//u@", "//u@v@h", "//u v@h", "//:80", "//h/ ", "//h/{", "//h/\xFF", "//h? ", "//h?|", "//h# ", "//h#\x00", "//h/\u00E9", "//\u00E9", "//http://h", "//*",
		} {
			checkNoResolve(t, of.base, s, api.ErrText)
		}
	}
	checkResolve(t, must("http://a"), "//h:443", "http://h:443")
	checkResolve(t, must("https://a"), "//h:443", "https://h")
	checkResolve(t, must("https://a"), "//h:80", "https://h:80")
}

// TestResolveWholePath is the case of a single /.
func TestResolveWholePath(t *testing.T) {
	for _, of := range shapes("/b/c") {
		for s, want := range map[string]string{
			"/": "/", "/g": "/g", "/g/": "/g/", "/g/h": "/g/h", "/.": "/", "/..": "/", "/./": "/", "/../": "/", "/./g": "/g", "/../g": "/g", "/g/.": "/g/", "/g/..": "/", "/g/./h": "/g/h", "/g/../h": "/h", "/g/../../h": "/h", "/g//h": "/g//h", "/g//../h": "/g/h", "/.//g": "//g", "/..//g": "//g", "/./.": "/", "/...": "/...", "/.g": "/.g", "/g.": "/g.",
			"/?": "/?", "/#": "/#", "/?y": "/?y", "/#s": "/#s", "/g?y": "/g?y", "/g#s": "/g#s", "/g?y#s": "/g?y#s", "/g#s?y": "/g#s?y", "/..?y": "/?y", "/..#s": "/#s", "/.?y": "/?y", "/g/..?y": "/?y", "/g/.#s": "/g/#s", "/g?/..": "/g?/..", "/g#/..": "/g#/..", "/g?y/../z": "/g?y/../z", "/g#s/./r": "/g#s/./r", "/g/../h?y/../z#s/../r": "/h?y/../z#s/../r", "/../g?/./y#/./s": "/g?/./y#/./s", "/g?../y": "/g?../y",
			"/:": "/:", "/g:h": "/g:h", "/http://h": "/http://h", "/g:80/..": "/", "/g?y:z": "/g?y:z", "/g#s:r": "/g#s:r", "/@": "/@", "/u@h": "/u@h",
		} {
			checkResolve(t, of.base, s, of.before+want)
		}
		for _, s := range []string{"/ ", "/g h", "/{", "/\"", "/<", "/\\", "/^", "/`", "/|", "/\x00", "/\x7F", "/\x80", "/\u00E9", "/g? ", "/g?{", "/g# ", "/g#{", "/g?\xFF", "/g#\xFF", " /g", "\t/g"} {
			checkNoResolve(t, of.base, s, api.ErrText)
		}
		checkResolve(t, of.base, "/{/../g", of.before+"/g") // Parse does not see what Path removes
		checkResolve(t, of.base, "/g/ /..", of.before+"/g/")
	}
}

// TestResolveQuery is the case of ?.
func TestResolveQuery(t *testing.T) {
	for _, path := range []string{"/b/c", "/", "/b/", "//", "/b/../c/.", "/b:c/d"} {
		for _, of := range shapes(path) {
			for _, s := range []string{"?", "?y", "?y=1&z", "??", "?/", "?/../y", "?../y", "?./y/.", "?y/../z", "?y#s", "?#", "?#s", "?y?z#s?r#", "?:", "?y:z", "?http://h", "?//h", "?y#s/../r", "?#/..", "?@"} {
				checkResolve(t, of.base, s, of.before+path+s)
			}
			for _, s := range []string{"? ", "?{", "?y z", "?\"", "?\x7F", "?\xFF", "?\u00E9", "?y# ", "?y#{", "?#\x00"} {
				checkNoResolve(t, of.base, s, api.ErrText)
			}
		}
	}
}

// TestResolveFrag is the case of # and of the empty string.
func TestResolveFrag(t *testing.T) {
	for _, path := range []string{"/b/c", "/", "/b/", "//", "/b/../c/.", "/b:c/d"} {
		for _, of := range shapes(path) {
			for _, s := range []string{"", "#", "#s", "##", "#?", "#?y", "#s?y", "#/", "#/../s", "#../s", "#s/./r", "#:", "#s:r", "#http://h", "#//h", "#s#r", "#@"} {
				checkResolve(t, of.base, s, of.before+path+of.query+s)
			}
			for _, s := range []string{"# ", "#{", "#s r", "#\"", "#\x7F", "#\xFF", "#\u00E9", "#s#\\", "#?|"} {
				checkNoResolve(t, of.base, s, api.ErrText)
			}
		}
	}
}

// TestResolveScheme is the case of a colon before the first / ? or #.
func TestResolveScheme(t *testing.T) {
	for _, of := range shapes("/b/c") {
		for _, s := range []string{
			":", "::", "g:", "g:h", ":g", "g:h:i", "g:/", "g:/h", "g://h", "g:?", "g:#", "g:?y", "g:#s", ":/", "://", "://h", ":?", ":#", ":80", "h:80", "h:80/x", "..:", ".:", "..:/g", ".:/../g", "u:p@h", "g:../h", "1:2", "%3A:", ";:", "@:", " :", "\x00:", "\xFF:g", "\u00E9:g", "g h:i",
			"http:", "https:", "http:g", "https:g", "http:/", "http:/g", "http://", "http:///g", "https:?y", "http:#s", "http:..", "HTTP:g", "http:\\\\h", "http://a..b", "http://h:080", "http://h/ ", "http://@h", "ftp://h", "ws://h", "data:,x", "about:blank", "blob:http://h", "javascript:x", "mailto:u@h", "file:///g", of.scheme + ":g", of.scheme + ":",
		} {
			checkNoResolve(t, of.base, s, api.ErrText)
		}
	}
}

// TestResolveColon has a colon after the first / ? or #.
func TestResolveColon(t *testing.T) {
	for _, of := range shapes("/b/c") {
		for s, want := range map[string]string{
			"./g:h": "/b/g:h", "g/:h": "/b/g/:h", "g/h:i": "/b/g/h:i", "./:": "/b/:", "g?:": "/b/g?:", "g?y:z": "/b/g?y:z", "g#:": "/b/g#:", "g#s:r": "/b/g#s:r", "../g:h": "/g:h", "./http://h": "/b/http://h", "g?http://h": "/b/g?http://h", "g#http://h": "/b/g#http://h", "g/../h:i": "/b/h:i", "g/:/..": "/b/g/", "g?y#s:": "/b/g?y#s:", "g#?:": "/b/g#?:", "./h:80": "/b/h:80",
		} {
			checkResolve(t, of.base, s, of.before+want)
		}
	}
}

// TestResolveOther is the last case, that of a path relative to that of base.
func TestResolveOther(t *testing.T) {
	for _, of := range shapes("/b/c") {
		for s, want := range map[string]string{
			"g": "/b/g", "g/": "/b/g/", "g/h": "/b/g/h", "g//h": "/b/g//h", "g//": "/b/g//", ".": "/b/", "..": "/", "./": "/b/", "../": "/", "./g": "/b/g", "../g": "/g", "../../g": "/g", "../..": "/", "g/.": "/b/g/", "g/..": "/b/", "g/../h": "/b/h", "g/./h": "/b/g/h", "...": "/b/...", ".g": "/b/.g", "g.": "/b/g.", "..g": "/b/..g", "./.": "/b/", ".//g": "/b//g", "..//g": "//g", "../b/c": "/b/c",
			"g?": "/b/g?", "g#": "/b/g#", "g?y": "/b/g?y", "g#s": "/b/g#s", "g?y#s": "/b/g?y#s", "g#s?y": "/b/g#s?y", "..?y": "/?y", "..#s": "/#s", ".?y": "/b/?y", ".#s": "/b/#s", "../?y": "/?y", "g/..?y": "/b/?y", "g/.#s": "/b/g/#s", "g?/..": "/b/g?/..", "g#/..": "/b/g#/..", "g?..": "/b/g?..", "g#..": "/b/g#..", "g?y/../z": "/b/g?y/../z", "g#s/./r": "/b/g#s/./r", "../g?y/../z#s/../r": "/g?y/../z#s/../r",
			"http": "/b/http", "http//h": "/b/http//h", "a.example": "/b/a.example", "@": "/b/@", "u@h": "/b/u@h", ";x": "/b/;x", "%2e%2e/g": "/b/%2e%2e/g",
		} {
			checkResolve(t, of.base, s, of.before+want)
		}
		for _, s := range []string{" ", "g h", "{", "\\", "\\\\h", "g\\..\\h", "g\"", "<", "g>", "^", "`", "|", "}", "\x00", "\x1F", "\x7F", "\x80", "\xFF", "\u00E9", "g? ", "g?{", "g# ", "g#{", "g?\xFF", "g#\xFF", " g", "g ", "g\n", "./ ", "../{", "\t../g"} {
			checkNoResolve(t, of.base, s, api.ErrText)
		}
		checkResolve(t, of.base, " /../g", of.before+"/b/g")
	}
}

// TestResolvePathsOfBase has bases with several / and with dots of their own.
func TestResolvePathsOfBase(t *testing.T) {
	for path, want := range map[string][4]string{ // for g, ../g, .. and /
		"/":           {"/g", "/g", "/", "/"},
		"/b":          {"/g", "/g", "/", "/"},
		"/b/":         {"/b/g", "/g", "/", "/"},
		"/b/c/":       {"/b/c/g", "/b/g", "/b/", "/"},
		"/b/c/d":      {"/b/c/g", "/b/g", "/b/", "/"},
		"/b/c/d/e/":   {"/b/c/d/e/g", "/b/c/d/g", "/b/c/d/", "/"},
		"//":          {"//g", "/g", "/", "/"},
		"//b":         {"//g", "/g", "/", "/"},
		"///":         {"///g", "//g", "//", "/"},
		"/b//":        {"/b//g", "/b/g", "/b/", "/"},
		"/b//c":       {"/b//g", "/b/g", "/b/", "/"},
		"/.":          {"/g", "/g", "/", "/"},
		"/..":         {"/g", "/g", "/", "/"},
		"/b/.":        {"/b/g", "/g", "/", "/"},
		"/b/..":       {"/b/g", "/g", "/", "/"},
		"/b/./":       {"/b/g", "/g", "/", "/"},
		"/b/../":      {"/g", "/g", "/", "/"},
		"/b/../c/d":   {"/c/g", "/g", "/", "/"},
		"/b/c/../d/e": {"/b/d/g", "/b/g", "/b/", "/"},
		"/../b/c":     {"/b/g", "/g", "/", "/"},
		"/b/.../c":    {"/b/.../g", "/b/g", "/b/", "/"},
	} {
		for _, of := range shapes(path) {
			for i, s := range []string{"g", "../g", "..", "/"} {
				checkResolve(t, of.base, s, of.before+want[i])
				checkResolve(t, of.base, s+"?y/../z", of.before+want[i]+"?y/../z")
				checkResolve(t, of.base, s+"#s/../r", of.before+want[i]+"#s/../r")
			}
			checkResolve(t, of.base, "", of.before+path+of.query)
			checkResolve(t, of.base, "?y", of.before+path+"?y")
		}
	}
}

// TestResolveEveryOrder has the marks of a reference in every order and place.
func TestResolveEveryOrder(t *testing.T) {
	bases := []api.URL{must("http://a"), must("https://u:p@a.b:8/c/d;p?q/r?#f/g"), must("http://a:443/b/../c//?"), must("https://u@a/b/c/#")}
	counts := map[api.Errno]int{}
	for _, s := range words([]string{"/", "?", "#", ":", "..", ".", "x"}, 5) {
		for _, base := range bases {
			counts[checkPlain(t, base, s)]++
		}
	}
	for _, s := range words([]string{"?", "#", "/", "x"}, 7) {
		for _, base := range bases[:2] {
			counts[checkPlain(t, base, s)]++
		}
	}
	for _, s := range words([]string{"http", "s", ":", "/", "//", "?", "h", "@"}, 5) {
		for _, base := range bases[:2] {
			counts[checkPlain(t, base, s)]++
		}
	}
	if counts[api.OK] < 10000 || counts[api.ErrText] < 10000 {
		t.Errorf("of the results %v one kind is hardly tested", counts)
	}
}

func TestResolveOfEveryByte(t *testing.T) {
	for _, base := range []api.URL{must("http://a"), must("https://u@a.b:8/c/d/e?q#f")} {
		for c := range 256 {
			s := string([]byte{byte(c)})
			for _, around := range [][2]string{{"", ""}, {"", "g"}, {"g", ""}, {"", "/g"}, {"", "//g"}, {"", ":g"}, {"/", ""}, {"/", "g"}, {"/g", "h"}, {"//", ""}, {"//", "g"}, {"//g", ""}, {"//g:8", ""}, {"?", ""}, {"?y", "z"}, {"#", ""}, {"#s", "r"}, {"..", ""}, {"..", "g"}, {"../", ""}, {"g", ":"}, {"g", "h:i"}, {"g", "?y#s"}, {"http:", "//h"}, {"http", "//h"}, {"http://", "/"}} {
				checkPlain(t, base, around[0]+s+around[1])
			}
			allowed := c >= 33 && c <= 126 && !strings.Contains("\"<>\\^`{|}", s)
			for _, start := range []string{"./g", "/g", "?y", "#s", "//h/g"} {
				if _, e := Resolve(base, start+s); (e == api.OK) != allowed {
					t.Errorf("Resolve with %q ends with %d", start+s, e)
				}
			}
		}
	}
}

// ofLength returns start and so many x that a text of this length is parsed for
// it, and that text.
func ofLength(t *testing.T, base api.URL, start string, length int) (string, string) {
	t.Helper()
	_, _, text := plainResolve(base, start+"x")
	s := start + "x" + strings.Repeat("x", length-len(text))
	if _, _, text = plainResolve(base, s); len(text) != length {
		t.Fatalf("a text of %d bytes instead of %d", len(text), length)
	}
	return s, text
}

// TestResolveLength has texts of every length around the limits, in each case
// that parses one.
func TestResolveLength(t *testing.T) {
	user := strings.Repeat("u", 128) + "@"
	for _, base := range []string{"http://a/b/c", "http://u@a:8/b/c?q#f", "https://a/", "https://" + user + "a:8443/b/c/?q", "http://a/" + strings.Repeat("b", 900) + "/c?q", "https://" + user + "a/b?" + strings.Repeat("q", 900)} {
		from := must(base)
		for _, start := range []string{"//h/", "//h?", "//h#", "//" + user + "h/", "//" + user + "h:443/", "//" + user + "h:80?", "/", "/g/../", "/g?", "/#", "?", "?#", "#", "g", "../", "./g?", "g#", ".?#"} {
			for length := 1015; length <= 1175; length++ {
				if _, _, text := plainResolve(from, start+"x"); len(text) > length {
					continue
				}
				s, text := ofLength(t, from, start, length)
				u, e := url.Parse(text)
				switch {
				case e == api.OK:
					checkResolve(t, from, s, url.Text(u))
				case length <= 1161:
					checkNoResolve(t, from, s, api.ErrText)
				default:
					checkNoResolve(t, from, s, api.ErrOver)
				}
			}
		}
	}
}

// TestResolveTooLong is what TestResolveLength does, with errors written out.
func TestResolveTooLong(t *testing.T) {
	base := must("http://u@a:8/b/c?q#f")
	for start, text := range map[string]string{
		"//h/": "http://h/", "//h?": "http://h?", "//": "http://", "/": "http://u@a:8/", "/g/../": "http://u@a:8/", "/?": "http://u@a:8/?", "?": "http://u@a:8/b/c?", "#": "http://u@a:8/b/c?q#", "g": "http://u@a:8/b/g", "../": "http://u@a:8/", ".#": "http://u@a:8/b/#",
	} {
		for length, want := range map[int]api.Errno{1160: api.ErrText, 1161: api.ErrText, 1162: api.ErrOver, 1163: api.ErrOver, 1 << 16: api.ErrOver, 1<<16 + 20: api.ErrOver} {
			checkNoResolve(t, base, start+strings.Repeat("x", length-len(text)), want)
			checkNoResolve(t, base, start+strings.Repeat("x", length-len(text)-1)+"{", want)
		}
		fits := 1024
		if !strings.HasPrefix(start, "//") {
			fits += len("u@")
		}
		if start == "//" {
			continue
		}
		if start == "//h?" {
			fits-- // the empty path becomes /
		}
		checkResolve(t, base, start+strings.Repeat("x", fits-len(text)), text+strings.Repeat("x", fits-len(text)))
		checkNoResolve(t, base, start+strings.Repeat("x", fits-len(text)+1), api.ErrText)
	}
}

// TestResolveLongReferences has references that are longer than any URL.
func TestResolveLongReferences(t *testing.T) {
	for _, of := range shapes("/b/c") {
		for _, length := range []int{1161, 1162, 5000} {
			x := strings.Repeat("x", length)
			// The limit concerns the text that is composed, and here there is none.
			for _, s := range []string{x + ":", x + ":y", "x:" + x, ":" + x, "http:" + x, "http://h/" + x, "https://" + x, x + "://h"} {
				checkNoResolve(t, of.base, s, api.ErrText)
			}
			// What Path removes is not counted.
			checkResolve(t, of.base, "/"+x+"/../g", of.before+"/g")
			checkResolve(t, of.base, x+"/../g?y", of.before+"/b/g?y")
			checkResolve(t, of.base, strings.Repeat("./", length)+"g", of.before+"/b/g")
			checkResolve(t, of.base, strings.Repeat("../", length)+"g", of.before+"/g")
			checkResolve(t, of.base, strings.Repeat("g/../", length), of.before+"/b/")
			checkNoResolve(t, of.base, "//h/"+x+"/../g", api.ErrOver)
			checkNoResolve(t, of.base, "?"+x+"/../g", api.ErrOver)
			checkNoResolve(t, of.base, "#"+x+"/../g", api.ErrOver)
		}
	}
}

// TestResolveLongBase has bases with the longest texts.
func TestResolveLongBase(t *testing.T) {
	user := strings.Repeat("u", 128)
	for _, base := range []string{
		"http://" + user + "@a/" + strings.Repeat("b", 1024-len("http://a/")),
		"http://" + user + "@a/b?" + strings.Repeat("q", 1024-len("http://a/b?")),
		"http://" + user + "@a/b#" + strings.Repeat("f", 1024-len("http://a/b#")),
		"http://" + user + "@a" + strings.Repeat("/b", 507) + "//",
	} {
		from := must(base)
		if len(base) != 1153 {
			t.Fatalf("a base of %d bytes", len(base))
		}
		checkResolve(t, from, "/g", "http://"+user+"@a/g")
		checkResolve(t, from, "//h", "http://h")
		checkResolve(t, from, "", strings.TrimRight(base, "#f"))
		if !from.HasFrag {
			checkNoResolve(t, from, "#", api.ErrText)
			checkNoResolve(t, from, "#2345678", api.ErrText) // 1161 bytes
			checkNoResolve(t, from, "#23456789", api.ErrOver)
		}
	}
}

func TestResolveItsResults(t *testing.T) {
	r := rand.New(rand.NewSource(8))
	pieces := []string{"/", "//", "/.", "/..", "../", "./", "?", "#", ":", "http://h", "h", "g", "@", "x=1", " ", ":80", "A"}
	base := must("https://u@a.b:9/c/d;p?q#f")
	counts := map[api.Errno]int{}
	for range 30000 {
		s := ""
		for range r.Intn(8) {
			s += pieces[r.Intn(len(pieces))]
		}
		counts[checkPlain(t, base, s)]++
		u, e := Resolve(base, s)
		if e != api.OK {
			continue
		}
		if !url.Good(u) {
			t.Errorf("Resolve(%q, %q) is not valid", url.Text(base), s)
		}
		checkResolve(t, base, url.Text(u), url.Text(u))
		base = u // from result to result
		if len(url.Text(base)) > 200 {
			base = must("http://a/b/c")
		}
	}
	if counts[api.OK] < 3000 || counts[api.ErrText] < 3000 {
		t.Errorf("of the results %v one kind is hardly tested", counts)
	}
}

// TestOtherBasesEnd has bases for which nothing is specified but that no call
// panics.
func TestOtherBasesEnd(t *testing.T) {
	for _, base := range []api.URL{{}, {Path: "b"}, {Scheme: "http", Host: "a"}, {Scheme: "ftp", Host: "a", Path: "/"}, {Scheme: "http", Host: "a", Path: "b/c"}, {Scheme: "http", Host: "a", Port: -1, Path: "/", Query: "q", Frag: "f"}, {Scheme: "\xFF", User: "@", Host: "/", Path: "?#"}} {
		for _, s := range []string{"", "/", "//", "//h", "?", "#", ":", "g", "..", "../..", "\xFF"} {
			Resolve(base, s)
		}
		checkResolve(t, base, "http://h", "http://h")
	}
}

func TestNothingIsKept(t *testing.T) {
	base := must("http://a/b/c")
	for range 3 {
		checkPath(t, "/a/b/../c/.", "/a/c/")
		checkResolve(t, base, "../d?e", "http://a/d?e")
		checkNoResolve(t, base, "x:y", api.ErrText)
		checkNoResolve(t, base, "/"+strings.Repeat("x", 1162), api.ErrOver)
	}
}

func FuzzJoin(f *testing.F) {
	f.Add("http://a/b/c", "../d?e")
	f.Add("https://u:p@a.b:9/c/../d;p?q/r#f/g", "//h:443/../x")
	f.Add("http://a//", ".//..?#/..")
	f.Add("http://a?q", "x:y")
	f.Fuzz(func(t *testing.T, text, s string) {
		checkPath(t, s, plainPath(s))
		checkPath(t, Path(s), Path(s))
		base, e := url.Parse(text)
		if e != api.OK {
			base = must("https://u@a.b:8/c/d?q#f")
		}
		checkPlain(t, base, s)
	})
}
