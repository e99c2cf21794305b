package safe

import (
	"fmt"
	"maps"
	"math/rand"
	"regexp"
	"slices"
	"strings"
	"testing"

	"pursuivant/api"
)

const (
	lowers = "abcdefghijklmnopqrstuvwxyz"
	uppers = "ABCDEFGHIJKLMNOPQRSTUVWXYZ"
	digits = "0123456789"
)

var (
	usualMethods   = []string{"DELETE", "GET", "HEAD", "OPTIONS", "POST", "PUT"}
	badMethods     = []string{"CONNECT", "TRACE", "TRACK"}
	simpleMethods  = []string{"GET", "HEAD", "POST"}
	forbiddenNames = []string{
		"accept-charset", "accept-encoding", "access-control-request-headers", "access-control-request-method",
		"connection", "content-length", "cookie", "cookie2", "date", "dnt", "expect", "host", "keep-alive", "origin",
		"referer", "set-cookie", "te", "trailer", "transfer-encoding", "upgrade", "via",
	}
	beginnings = []string{"proxy-", "sec-"}
	safeNames  = []string{"accept", "accept-language", "content-language", "content-type"}
	safeTypes  = []string{"application/x-www-form-urlencoded", "multipart/form-data", "text/plain"}

	// The numbers of the marks that the chapter lists.
	excludedNumbers = []int{34, 40, 41, 58, 60, 62, 63, 64, 91, 92, 93, 123, 125, 127}
	languageNumbers = []int{32, 42, 44, 45, 46, 59, 61}
)

// The forms are those of bytes that were turned into runes of the same number.
// (?i) would make runes that are no ASCII match k and s, so the texts are in
// lower case already.
var (
	acceptForm   = regexp.MustCompile(`\A[\t !#-'*-9;=A-Z^-z|~\x{80}-\x{FF}]*\z`)
	languageForm = regexp.MustCompile(`\A[0-9A-Za-z *,.;=-]*\z`)
	typeForm     = regexp.MustCompile(`\A[\t ]*(application/x-www-form-urlencoded|multipart/form-data|text/plain)[\t ]*(;.*)?\z`)
)

// runes returns a text with a rune for each byte of s.
func runes(s string) string {
	out := make([]rune, len(s))
	for i := range len(s) {
		out[i] = rune(s[i])
	}
	return string(out)
}

// swap returns s with each byte of from replaced by that of to.
func swap(s, from, to string) string {
	out := []byte(s)
	for i, c := range out {
		if place := strings.IndexByte(from, c); place >= 0 {
			out[i] = to[place]
		}
	}
	return string(out)
}

func plainLower(s string) string { return swap(s, uppers, lowers) }
func plainUpper(s string) string { return swap(s, lowers, uppers) }

// mixed returns s with every other letter in upper case, from a place on.
func mixed(s string, from int) string {
	out := []byte(plainLower(s))
	for i := from; i < len(out); i += 2 {
		copy(out[i:], plainUpper(string(out[i:i+1])))
	}
	return string(out)
}

// cases returns s in lower, upper and mixed case, and with a single letter in
// the other case at each place.
func cases(s string) []string {
	low, up := plainLower(s), plainUpper(s)
	out := []string{low, up, mixed(s, 0), mixed(s, 1)}
	for i := range len(s) {
		out = append(out, low[:i]+up[i:i+1]+low[i+1:], up[:i]+low[i:i+1]+up[i+1:])
	}
	return out
}

// near returns texts that differ from s by a byte more or less at the
// beginning or the end.
func near(s string) []string {
	out := []string{s[1:], s[:len(s)-1], s + s}
	for c := range 256 {
		one := text(c)
		out = append(out, one+s, s+one)
	}
	return out
}

// within returns texts that have another byte at one place of s, of which none
// is a letter that differs in its case alone.
func within(s string) []string {
	var out []string
	for i := range len(s) {
		for c := range 256 {
			if plainLower(text(c)) != plainLower(s[i:i+1]) {
				out = append(out, s[:i]+text(c)+s[i+1:])
			}
		}
	}
	return out
}

func text(c int) string {
	return string([]byte{byte(c)})
}

// unusual holds texts that are no names of anything.
var unusual = []string{"", " ", "\t", "\x00", "\n", "-", "--", "*", ",", ":", ";", "\u00E9", "\u212A", "\u017F", "\xFF", "\xC3\x28", strings.Repeat("a", 5000), strings.Repeat("\xFF", 300)}

func checkMethod(t *testing.T, s, want string) {
	t.Helper()
	if got := Method(s); got != want {
		t.Errorf("Method(%.100q) = %.100q, want %.100q", s, got, want)
	}
}

func checkBad(t *testing.T, s string, want bool) {
	t.Helper()
	if got := Bad(s); got != want {
		t.Errorf("Bad(%.100q) = %v", s, got)
	}
}

func checkSimple(t *testing.T, s string, want bool) {
	t.Helper()
	if got := Simple(s); got != want {
		t.Errorf("Simple(%.100q) = %v", s, got)
	}
}

func checkForbidden(t *testing.T, name string, want bool) {
	t.Helper()
	if got := Forbidden(name); got != want {
		t.Errorf("Forbidden(%.100q) = %v", name, got)
	}
}

func checkHeader(t *testing.T, name, value string, want bool) {
	t.Helper()
	if got := Header(api.Header{Name: name, Value: value}); got != want {
		t.Errorf("Header of %.100q with %.200q of %d bytes = %v", name, value, len(value), got)
	}
}

// checkOther checks that s is no method that is named anywhere.
func checkOther(t *testing.T, s string) {
	t.Helper()
	checkMethod(t, s, s)
	checkBad(t, s, false)
	checkSimple(t, s, false)
}

func plainForbidden(name string) bool {
	low := plainLower(name)
	return slices.Contains(forbiddenNames, low) || len(low) > 5 && low[:6] == "proxy-" || len(low) > 3 && low[:4] == "sec-"
}

func plainHeader(h api.Header) bool {
	value := runes(h.Value)
	switch plainLower(h.Name) {
	case "accept":
		return len(h.Value) < 129 && acceptForm.MatchString(value)
	case "accept-language":
		return len(h.Value) < 129 && languageForm.MatchString(value)
	case "content-language":
		return len(h.Value) < 129 && languageForm.MatchString(value)
	case "content-type":
		return len(h.Value) < 129 && acceptForm.MatchString(value) && typeForm.MatchString(runes(plainLower(h.Value)))
	default:
		return false
	}
}

// plainUnsafe puts each name in its place among those before it.
func plainUnsafe(list []api.Header) []string {
	var out []string
	for _, h := range list {
		if plainHeader(h) {
			continue
		}
		name, place := plainLower(h.Name), 0
		for place < len(out) && out[place] < name {
			place++
		}
		if place == len(out) || out[place] != name {
			out = slices.Insert(out, place, name)
		}
	}
	return out
}

func TestMethodsThatAreNamed(t *testing.T) {
	for _, method := range usualMethods {
		for _, s := range cases(method) {
			checkMethod(t, s, method)
			checkBad(t, s, false)
			checkSimple(t, s, s == "GET" || s == "HEAD" || s == "POST")
		}
	}
	for _, method := range badMethods {
		for _, s := range cases(method) {
			checkMethod(t, s, s)
			checkBad(t, s, true)
			checkSimple(t, s, false)
		}
	}
	for _, method := range simpleMethods {
		checkSimple(t, method, true)
		for _, s := range cases(method) {
			checkSimple(t, s, s == method)
		}
	}
}

func TestMethodsKnown(t *testing.T) {
	for s, want := range map[string]string{
		"get": "GET", "Get": "GET", "gEt": "GET", "GET": "GET",
		"post": "POST", "Post": "POST", "POST": "POST",
		"put": "PUT", "pUT": "PUT", "PUT": "PUT",
		"delete": "DELETE", "Delete": "DELETE", "DELETE": "DELETE",
		"head": "HEAD", "heaD": "HEAD", "HEAD": "HEAD",
		"options": "OPTIONS", "Options": "OPTIONS", "OPTIONS": "OPTIONS",
		"": "", "patch": "patch", "Patch": "Patch", "PATCH": "PATCH",
		"connect": "connect", "Trace": "Trace", "TRACK": "TRACK", "trAck": "trAck",
		"query": "query", "x": "x", "X": "X",
	} {
		checkMethod(t, s, want)
	}
	for _, s := range []string{"connect", "Connect", "CONNECT", "trace", "Trace", "TRACE", "track", "tRaCk", "TRACK"} {
		checkBad(t, s, true)
	}
	for _, s := range []string{"get", "Get", "GEt", "head", "Head", "post", "POSt", "PUT", "put", "DELETE", "OPTIONS", "PATCH", "CONNECT", "TRACE", "TRACK"} {
		checkSimple(t, s, false)
	}
}

func TestOtherMethods(t *testing.T) {
	for _, s := range unusual {
		checkOther(t, s)
	}
	for _, method := range []string{"PATCH", "PROPFIND", "MKCOL", "QUERY", "LINK", "TRAC", "TRACER", "TRA", "CONN", "CONNECTION", "GETS", "OPTION", "POSTS", "POS", "PU", "DEL", "REMOVE", "HEADER", "GET,POST", "GET POST", "GETPOST", "COPY", "PRI", "A"} {
		for _, s := range cases(method) {
			checkOther(t, s)
		}
	}
	// Letters whose upper or lower case is one of ASCII's.
	for _, s := range []string{"trac\u212A", "TRAC\u212A", "po\u017Ft", "PO\u017FT", "option\u017F", "OPT\u0130ONS", "opt\u0131ons"} {
		checkOther(t, s)
	}
}

func TestMethodsNearOthers(t *testing.T) {
	for _, method := range append(slices.Clone(usualMethods), badMethods...) {
		for _, form := range []string{method, plainLower(method), mixed(method, 0)} {
			for _, s := range append(near(form), within(form)...) {
				checkOtherThan(t, s)
			}
		}
	}
}

// checkOtherThan is for texts of which few happen to be a method that is
// named, as track is beside trace.
func checkOtherThan(t *testing.T, s string) {
	t.Helper()
	up := plainUpper(s)
	if slices.Contains(badMethods, up) {
		checkMethod(t, s, s)
		checkBad(t, s, true)
		checkSimple(t, s, false)
	} else if slices.Contains(usualMethods, up) {
		checkMethod(t, s, up)
		checkBad(t, s, false)
		checkSimple(t, s, slices.Contains(simpleMethods, s))
	} else {
		checkOther(t, s)
	}
}

// TestMethodsTogether has all pairs of what the functions say of one method.
func TestMethodsTogether(t *testing.T) {
	for _, method := range append(slices.Clone(usualMethods), append(badMethods, "PATCH", "")...) {
		for _, s := range cases(method) {
			sent := Method(s)
			checkMethod(t, sent, sent)
			checkBad(t, sent, Bad(s))
			checkSimple(t, sent, slices.Contains(simpleMethods, method))
		}
	}
}

func TestForbiddenNames(t *testing.T) {
	if len(forbiddenNames) != 21 {
		t.Fatalf("%d names are listed", len(forbiddenNames))
	}
	for _, name := range forbiddenNames {
		for _, s := range cases(name) {
			checkForbidden(t, s, true)
		}
	}
}

func TestForbiddenNearOthers(t *testing.T) {
	for _, name := range forbiddenNames {
		for _, form := range []string{name, plainUpper(name), mixed(name, 1)} {
			for _, s := range append(near(form), within(form)...) {
				// Beside cookie is cookie2, and beside set-cookie one that begins
				// with sec-; all others are free.
				low := plainLower(s)
				checkForbidden(t, s, low == "cookie" || low == "cookie2" || low == "sec-cookie")
			}
		}
		for _, s := range []string{"x-" + name, name + "-x", "x" + name + "x", " " + name, name + " ", "\t" + name, name + ":", name + ": 1", name + "," + name, name + "\x00", "\x00" + name, strings.ReplaceAll(name, "-", "_") + "_", "access-control-" + name, "proxy" + name, "sec" + name} {
			checkForbidden(t, s, false)
		}
	}
}

func TestForbiddenBeginnings(t *testing.T) {
	rests := append(slices.Clone(unusual), "a", "Authorization", "fetch-mode", "GPC", "ch-ua", "WebSocket-Key", "connection", "proxy", "sec", "proxy-", "sec-", "accept", "-", "x:y")
	for _, beginning := range beginnings {
		for _, form := range cases(beginning) {
			checkForbidden(t, form, true)
			for _, rest := range rests {
				checkForbidden(t, form+rest, true)
			}
			for c := range 256 {
				checkForbidden(t, form+text(c), true)
				checkForbidden(t, text(c)+form, false)
				checkForbidden(t, text(c)+form+"x", false)
			}
			checkForbidden(t, form[1:], false)
			checkForbidden(t, form[1:]+"authorization", false)
		}
		for _, s := range within(beginning) {
			checkForbidden(t, s, false)
			checkForbidden(t, s+"x", false)
		}
		without := beginning[:len(beginning)-1]
		for _, form := range cases(without) {
			for _, rest := range []string{"", " ", "x", "ret", "_", "_x", " -", "x-", "s-x", "\u2010x", "\xAD", "=", ".", "+", "ure", "\x00-"} {
				checkForbidden(t, form+rest, false)
			}
			for end := range without {
				checkForbidden(t, form[:end], false)
				checkForbidden(t, form[:end]+"-", false)
			}
		}
		for _, before := range []string{"x-", "x", " ", "-", "un", "a-", "\xFF", "pro", "prox", "se", "proxy", "sec", "accept-", "\t"} {
			checkForbidden(t, before+beginning, false)
			checkForbidden(t, before+beginning+"x", false)
			checkForbidden(t, plainUpper(before+beginning+"x"), false)
		}
	}
}

func TestForbiddenOthers(t *testing.T) {
	for _, name := range unusual {
		checkForbidden(t, name, false)
	}
	for _, name := range []string{"accept", "accept-language", "content-language", "content-type", "authorization", "content-encoding", "access-control-allow-origin", "access-control-request-private-network", "access-control-request-", "access-control-request", "cookie3", "cookies", "set-cookie2", "hosts", "referrer", "tee", "user-agent", "x", "x-te", "x-sec-a", "range", "location", "if-match", "permissions", "trailers", "transfer", "encoding", "keep", "alive", "keep-alive-", "-te", "vi", "dn", "t", "e", "origin2", "proxy", "sec", "proxysec-", "secproxy-", "cache-control", "x-http-method", "x-method-override"} {
		for _, s := range cases(name) {
			checkForbidden(t, s, false)
		}
	}
	for _, name := range []string{"\u017Fec-a", "\u017Fet-cookie", "coo\u212Aie", "v\u0130a", "v\u0131a", "refer\u00E9r", "\uFF54\uFF45"} {
		checkForbidden(t, name, false)
	}
}

func TestHeaderOfTheChapter(t *testing.T) {
	checkHeader(t, "content-type", "text/plain;charset=utf-8", true)
	checkHeader(t, "content-type", "application/json", false)
}

func TestHeaderKnown(t *testing.T) {
	for _, value := range []string{"", "*/*", "text/html, */*;q=0.8", "a\tb", "\t", " ", "  a  ", "!#$%&'*+,-./09;=AZ^_`az|~", "\u00E9", "\x80\xFF", "a;b=c"} {
		checkHeader(t, "accept", value, true)
	}
	for _, value := range []string{"\"", "(", ")", ":", "<", ">", "?", "@", "[", "\\", "]", "{", "}", "\x7F", "\x00", "\x01", "\x08", "\n", "\x0B", "\x0C", "\r", "\x1F", "a:b", "text/html;q=\"1\"", "a\r\nb", "\u00E9\x7F"} {
		checkHeader(t, "accept", value, false)
	}
	for _, name := range []string{"accept-language", "content-language"} {
		for _, value := range []string{"", "de", "en-US, de;q=0.5, *;q=0.1", " ", "*,-.;=", "09AZaz", "  de  "} {
			checkHeader(t, name, value, true)
		}
		for _, value := range []string{"\t", "d_e", "a/b", "a+b", "de:", "\"de\"", "@", "[", "`", "{", "~", "!", "#", "\x7F", "\x00", "\x1F", "\n", "\u00E9", "\x80", "\xFF", "de\t", "\tde", "de (x)"} {
			checkHeader(t, name, value, false)
		}
	}
}

func TestHeaderNames(t *testing.T) {
	for _, name := range safeNames {
		for _, s := range cases(name) {
			checkHeader(t, s, "text/plain", name == "accept" || name == "content-type")
			checkHeader(t, s, "de", name != "content-type")
			checkHeader(t, s, "", name != "content-type")
			checkHeader(t, s, "\x00", false)
		}
		for _, form := range []string{name, plainUpper(name)} {
			for _, s := range append(near(form), within(form)...) {
				for _, value := range []string{"", "de", "text/plain"} {
					checkHeader(t, s, value, false)
				}
			}
		}
	}
	others := append(slices.Clone(unusual), "x", "authorization", "accept-charset", "accept-encoding", "content-encoding", "content", "type", "language", "accept-", "range", "dpr", "save-data", "width", "content_type", "accept, accept", "accept:", "ac\u00E7ept", "content-type;", "text/plain", "de")
	for _, name := range append(others, forbiddenNames...) {
		for _, value := range []string{"", "a", "de", "text/plain", "*/*", "0", "bytes=0-1", "\x00", strings.Repeat("a", 128), strings.Repeat("a", 129)} {
			checkHeader(t, name, value, false)
		}
	}
}

// surrounded returns texts with a byte alone and at places among others, which
// any value may contain.
func surrounded(c int) []string {
	s := text(c)
	return []string{s, s + "a", "a" + s, "a" + s + "b", s + s, "a" + s + s + "b", "a-Z." + s + ",0=9", "a " + s + " b", strings.Repeat("a", 127) + s, s + strings.Repeat("a", 127), strings.Repeat("a", 64) + s + strings.Repeat("a", 63), strings.Repeat(s, 128)}
}

func TestHeaderOfEveryByte(t *testing.T) {
	accepted, spoken := 0, 0
	for c := range 256 {
		excluded := c < 32 && c != 9 || slices.Contains(excludedNumbers, c)
		language := 48 <= c && c <= 57 || 65 <= c && c <= 90 || 97 <= c && c <= 122 || slices.Contains(languageNumbers, c)
		if !excluded {
			accepted++
		}
		if language {
			spoken++
		}
		for _, value := range surrounded(c) {
			checkHeader(t, "accept", value, !excluded)
			checkHeader(t, "Accept", value, !excluded)
			checkHeader(t, "accept-language", value, language)
			checkHeader(t, "Content-Language", value, language)
			checkHeader(t, "content-type", value, false)
			checkHeader(t, "x", value, false)
			checkHeader(t, "", value, false)
		}
		checkTypeByte(t, text(c), excluded)
	}
	if accepted != 256-31-14 || spoken != 62+7 {
		t.Errorf("%d bytes may be in accept, %d in a language", accepted, spoken)
	}
}

// checkTypeByte has one byte at each part of a content-type.
func checkTypeByte(t *testing.T, s string, excluded bool) {
	t.Helper()
	blank := s == " " || s == "\t"
	for _, kind := range safeTypes {
		checkHeader(t, "content-type", s+kind, blank)
		checkHeader(t, "content-type", kind+s, blank || s == ";")
		checkHeader(t, "content-type", s+kind+s, blank)
		checkHeader(t, "content-type", s+kind+";x", blank)
		checkHeader(t, "content-type", kind+s+";x", blank || s == ";")
		checkHeader(t, "content-type", kind+s+"x", s == ";")
		checkHeader(t, "content-type", kind+";"+s, !excluded)
		checkHeader(t, "content-type", kind+" ;"+s+"x", !excluded)
		checkHeader(t, "content-type", kind+"; a=b; c="+s+"d;e", !excluded)
		checkHeader(t, "content-type", kind+";;"+s, !excluded)
		middle := strings.IndexByte(kind, '/')
		checkHeader(t, "content-type", kind[:middle]+s+kind[middle:], false)
		checkHeader(t, "content-type", kind[:middle+1]+s+kind[middle+1:], false)
		checkHeader(t, "content-type", kind[:middle]+s+kind[middle+1:], s == "/")
	}
}

func TestHeaderOfEveryLength(t *testing.T) {
	for length := range 400 {
		for _, c := range []string{"a", "0", "Z", ";", ",", " ", "*"} {
			value := strings.Repeat(c, length)
			checkHeader(t, "accept", value, length < 129)
			checkHeader(t, "accept-language", value, length < 129)
			checkHeader(t, "Content-Language", value, length < 129)
			checkHeader(t, "content-type", value, false)
		}
		for _, c := range []string{"\xFF", "\t", "/"} {
			checkHeader(t, "accept", strings.Repeat(c, length), length < 129)
		}
		for _, kind := range safeTypes {
			if length < len(kind)+1 {
				continue
			}
			rest := length - len(kind)
			checkHeader(t, "content-type", kind+";"+strings.Repeat("x", rest-1), length < 129)
			checkHeader(t, "content-type", kind+strings.Repeat(" ", rest), length < 129)
			checkHeader(t, "content-type", strings.Repeat("\t", rest)+kind, length < 129)
			checkHeader(t, "content-type", kind+strings.Repeat(";", rest), length < 129)
			checkHeader(t, "content-type", kind+strings.Repeat("x", rest), false)
		}
	}
	// The limit is of bytes, not of characters.
	checkHeader(t, "accept", strings.Repeat("\u00E9", 64), true)
	checkHeader(t, "accept", strings.Repeat("\u00E9", 65), false)
	checkHeader(t, "accept", strings.Repeat("a", 1<<8), false)
	checkHeader(t, "accept", strings.Repeat("a", 1<<16), false)
	checkHeader(t, "accept", strings.Repeat("a", 1<<20), false)
	// It is one of the value alone.
	checkHeader(t, "content-language", strings.Repeat("a", 127), true)
	checkHeader(t, "content-language", strings.Repeat("a", 128), true)
	checkHeader(t, "content-language", strings.Repeat("a", 129), false)
	checkHeader(t, "accept-language", strings.Repeat("a", 127)+"_", false)
}

func TestHeaderOfTypes(t *testing.T) {
	for _, kind := range safeTypes {
		for _, form := range cases(kind) {
			for _, around := range []string{"", " ", "\t", "  ", " \t ", "\t\t"} {
				for _, rest := range []string{"", ";", ";;", ";x", "; x", ";charset=utf-8", "; charset=UTF-8 ", ";a=b;c=d", ";;;;", "; application/json", ";\u00E9", ";\t", ";\xFF;"} {
					checkHeader(t, "content-type", around+form+rest, true)
					checkHeader(t, "Content-Type", form+around+rest, true)
					checkHeader(t, "CONTENT-TYPE", around+form+around+rest, true)
				}
			}
		}
		for _, value := range []string{kind + ";x=\"y\"", kind + ";(c)", kind + ";a:b", kind + ";a=b;c=<d>", kind + ";\x7F", kind + ";\x00", kind + ";;?", kind + "; a\n", kind + ";a=b;\r\n", kind + "\n", "\n" + kind, "\r" + kind + ";", kind + "\x0B", "\u00A0" + kind, kind + "\u00A0", kind + "\u2003;", kind + ",", kind + ", " + kind, kind + kind, kind + " x", kind + " x;", "x " + kind, ";" + kind, " ;" + kind, "a;" + kind, kind[1:], kind[:len(kind)-1], kind[:len(kind)-1] + ";" + kind, kind + "x", "x" + kind, kind + "/", "/" + kind, kind + "=", strings.Replace(kind, "/", " / ", 1), strings.Replace(kind, "/", "", 1), strings.Replace(kind, "/", "//", 1), strings.Replace(kind, "/", ";/", 1)} {
			checkHeader(t, "content-type", value, false)
		}
		for _, value := range append(near(kind), within(kind)...) {
			checkHeader(t, "content-type", value, value == kind+";" || value == kind+" " || value == kind+"\t" || value == " "+kind || value == "\t"+kind)
		}
	}
}

func TestHeaderOfOtherTypes(t *testing.T) {
	for _, value := range []string{"", " ", "\t", ";", " ; ", ";;", "/", "text", "plain", "text/", "/plain", "text/html", "text/*", "*/*", "text/css", "text/plain2", "text/plain-x", "multipart/form", "multipart/mixed", "multipart/form-data-x", "form-data", "application/json", "application/json;text/plain", "application/xml", "application/x-www-form-urlencode", "application/x-www-form", "application/form-data", "application/plain", "text/form-data", "multipart/plain", "x-www-form-urlencoded", "image/png", "text\\plain", "text plain", "text/pla\u0130n", "text/pla\u0131n", "mult\u0130part/form-data", "appl\u0130cat\u0130on/x-www-form-urlencoded", "\uFF54ext/plain", "\u00E9", "\xFF"} {
		for _, form := range []string{value, plainUpper(value), " " + value, value + "\t", value + ";", value + ";charset=utf-8"} {
			checkHeader(t, "content-type", form, false)
		}
	}
}

// checkUnsafe calls Unsafe with a list that has headers behind its length, and
// checks that the list and what lies behind it stay as they were, and that the
// results of two calls share no memory.
func checkUnsafe(t *testing.T, list []api.Header, want ...string) {
	t.Helper()
	all := slices.Concat(list, []api.Header{{Name: "Behind"}, {Name: "0"}, {Name: "accept", Value: "("}})
	before := slices.Clone(all)
	first := Unsafe(all[:len(list)])
	if !slices.Equal(all, before) {
		t.Errorf("Unsafe changed %.300q to %.300q", before, all)
	}
	second := Unsafe(all[:len(list)])
	if !slices.Equal(first, want) || !slices.Equal(second, want) {
		t.Errorf("Unsafe(%.300q) = %.300q and %.300q, want %.300q", list, first, second, want)
	}
	spare := first[:cap(first)]
	for i := range spare {
		spare[i] = "changed"
	}
	for i := range all {
		all[i] = api.Header{Name: "changed"}
	}
	if !slices.Equal(second, want) {
		t.Errorf("a change of the list or of another result changed %.300q to %.300q", want, second)
	}
}

// lines returns the headers that are written as name: value.
func lines(texts ...string) []api.Header {
	var out []api.Header
	for _, text := range texts {
		name, value, _ := strings.Cut(text, ": ")
		out = append(out, api.Header{Name: name, Value: value})
	}
	return out
}

func TestUnsafeOfNothing(t *testing.T) {
	for _, list := range [][]api.Header{nil, {}, make([]api.Header, 0, 5)} {
		if got := Unsafe(list); len(got) != 0 {
			t.Errorf("Unsafe of no headers = %q", got)
		}
		checkUnsafe(t, list)
	}
}

func TestUnsafeKnown(t *testing.T) {
	for _, one := range []struct {
		list []api.Header
		want string
	}{
		{lines("accept: */*"), ""},
		{lines("Accept: */*", "ACCEPT-Language: de", "content-language: en", "Content-Type: text/plain"), ""},
		{lines("accept: a", "accept: b", "Accept: c"), ""},
		{lines("x: 1"), "x"},
		{lines("X: 1"), "x"},
		{lines("X-Two: 2", "X-One: 1"), "x-one x-two"},
		{lines("b: 1", "a: 2", "c: 3"), "a b c"},
		{lines("c: 1", "B: 2", "a: 3"), "a b c"},
		{lines("a: 1", "B: 2", "C: 3"), "a b c"},
		{lines("Accept: a", "X: 1", "Accept-Language: de", "Authorization: b"), "authorization x"},
		{lines("Content-Type: application/json", "Accept: */*"), "content-type"},
		{lines("Z: ", "accept: (", "z: ", "accept: x", "b: "), "accept b z"},
		{lines("x: 1", "X: 2", "x: 3"), "x"},
		{lines("Ab: 1", "c: 1", "aB: 2", "C: 3", "AB: 4", "ab: 5"), "ab c"},
		{lines("accept: x", "accept: ("), "accept"},
		{lines("accept: (", "accept: x"), "accept"},
		{lines("Accept: x", "ACCEPT: (", "accept: y"), "accept"},
		{lines("Content-Type: text/plain", "content-type: text/html", "CONTENT-TYPE: text/css"), "content-type"},
		{lines("abc: 1", "ab: 2", "a: 3", "abcd: 4"), "a ab abc abcd"},
		{lines("a: 1", "ab: 2", "a-b: 3", "a.b: 4", "a0: 5", "a_: 6", "A~: 7"), "a a-b a.b a0 a_ ab a~"},
		{lines("Zz: 1", "_: 2", "^: 3", "0: 4", "a: 5", "A~: 6", "|: 7"), "0 ^ _ a a~ zz |"},
		{lines("accept-languages: de", "accept-lang: de", "accept-language: d_e", "accept: *"), "accept-lang accept-language accept-languages"},
		{lines("cookie: a=b", "Host: h", "sec-a: 1"), "cookie host sec-a"},
		{lines("x10: 1", "x9: 2", "x1: 3"), "x1 x10 x9"},
	} {
		checkUnsafe(t, one.list, strings.Fields(one.want)...)
	}
	checkUnsafe(t, []api.Header{{}}, "")
	checkUnsafe(t, []api.Header{{Name: "b"}, {}, {Value: "x"}, {Name: "a"}}, "", "a", "b")
	checkUnsafe(t, []api.Header{{Name: "accept", Value: strings.Repeat("a", 129)}, {Name: "Accept", Value: strings.Repeat("a", 128)}}, "accept")
	checkUnsafe(t, []api.Header{{Name: "Accept", Value: strings.Repeat("a", 128)}})
}

// TestUnsafeIsOfBytes has names that are no tokens, which are told as they are
// but for their letters.
func TestUnsafeIsOfBytes(t *testing.T) {
	var list []api.Header
	for c := 255; c >= 0; c-- {
		list = append(list, api.Header{Name: text(c)})
	}
	var want []string
	for c := range 256 {
		if c < 65 || c > 90 {
			want = append(want, text(c))
		}
	}
	checkUnsafe(t, list, want...)
	checkUnsafe(t, []api.Header{{Name: "\xFFA"}, {Name: "\u00C9"}, {Name: "A b"}, {Name: "\xFFa"}, {Name: "\u00E9"}, {Name: "a\x00"}, {Name: "A\n"}}, "a\x00", "a\n", "a b", "\u00C9", "\u00E9", "\xFFa")
	long := strings.Repeat("N", 5000)
	checkUnsafe(t, []api.Header{{Name: long}, {Name: long[1:]}, {Name: plainLower(long)}}, plainLower(long[1:]), plainLower(long))
}

// permute calls a function with a list in every order.
func permute(list []api.Header, from int, call func([]api.Header)) {
	if from == len(list) {
		call(list)
		return
	}
	for i := from; i < len(list); i++ {
		list[from], list[i] = list[i], list[from]
		permute(list, from+1, call)
		list[from], list[i] = list[i], list[from]
	}
}

func TestUnsafeInEveryOrder(t *testing.T) {
	for _, one := range []struct {
		list []api.Header
		want string
	}{
		{lines("accept: x", "Accept: (", "ACCEPT: y", "a: 1", "A: 2", "ab: 3"), "a ab accept"},
		{lines("content-type: text/plain", "Content-Type: text/html", "content: 1", "CONTENT-TYPE: text/plain;x", "Content-Types: text/plain", "x: "), "content content-type content-types x"},
		{lines("accept: a", "Accept-Language: d/e", "accept-language: de", "content-Language: de", "x-b: 1", "X-a: 2"), "accept-language x-a x-b"},
		{lines("accept: a", "Accept: b", "accept-language: de", "Content-Language: en", "content-type: text/plain"), ""},
	} {
		permute(one.list, 0, func(list []api.Header) { checkUnsafe(t, list, strings.Fields(one.want)...) })
	}
}

func TestUnsafeOfEveryChoice(t *testing.T) {
	list := lines("accept: a", "Accept: <", "b: 1", "B: 2", "content-type: text/plain", "Content-Type: x", "ba: 3", "accept-language: de", "ACCEPT-LANGUAGE: :")
	for choice := range 1 << len(list) {
		var some []api.Header
		told := map[string]int{}
		for i, h := range list {
			if choice>>i&1 == 0 {
				continue
			}
			some = append(some, h)
			if i != 0 && i != 4 && i != 7 {
				told[strings.ToLower(h.Name)]++
			}
		}
		want := slices.Sorted(maps.Keys(told))
		checkUnsafe(t, some, want...)
		slices.Reverse(some)
		checkUnsafe(t, some, want...)
	}
}

func TestUnsafeOfMany(t *testing.T) {
	var list []api.Header
	var want []string
	for i := range 3000 {
		list = append(list, api.Header{Name: fmt.Sprintf("X-%04d", i*7919%3000)}, api.Header{Name: "accept", Value: "*/*"}, api.Header{Name: fmt.Sprintf("x-%04d", i)})
		want = append(want, fmt.Sprintf("x-%04d", i))
	}
	checkUnsafe(t, list, want...)
	checkUnsafe(t, slices.Repeat(lines("X: 1"), 5000), "x")
	checkUnsafe(t, slices.Repeat(lines("accept: 1"), 5000))
}

// pick returns one of the texts, in some case of letters.
func pick(r *rand.Rand, texts []string) string {
	s := texts[r.Intn(len(texts))]
	switch r.Intn(4) {
	case 0:
		return plainUpper(s)
	case 1:
		return mixed(s, r.Intn(2))
	}
	return s
}

func randomHeader(r *rand.Rand) api.Header {
	h := api.Header{Name: pick(r, safeNames)}
	if r.Intn(8) == 0 {
		h.Name = pick(r, append(unusual, forbiddenNames...))
	}
	for range r.Intn(5) {
		h.Value += pick(r, []string{"a", "de", " ", "\t", ";", ",", "q=0.5", "*/*", "-", "\u00E9", "\"", ":", "\n", "x"})
	}
	switch r.Intn(4) {
	case 0:
		h.Value = pick(r, safeTypes) + h.Value
	case 1:
		h.Value = pick(r, []string{" ", "\t", "", ";"}) + pick(r, safeTypes) + pick(r, []string{" ", ";", "", " ;"}) + h.Value
	}
	if r.Intn(10) == 0 {
		h.Value += strings.Repeat("a", max(0, 126+r.Intn(5)-len(h.Value)))
	}
	return h
}

func TestRandom(t *testing.T) {
	r := rand.New(rand.NewSource(10))
	told := map[bool]int{}
	for range 30000 {
		var list []api.Header
		for range r.Intn(12) {
			h := randomHeader(r)
			want := plainHeader(h)
			checkHeader(t, h.Name, h.Value, want)
			checkForbidden(t, h.Name, plainForbidden(h.Name))
			told[want]++
			list = append(list, h)
		}
		checkUnsafe(t, list, plainUnsafe(list)...)
	}
	if told[true] < 20000 || told[false] < 20000 {
		t.Errorf("of the results %v of Header, one is hardly tested", told)
	}
}

func TestNothingIsKept(t *testing.T) {
	for range 3 {
		checkMethod(t, "get", "GET")
		checkMethod(t, "patch", "patch")
		checkBad(t, "Trace", true)
		checkSimple(t, "get", false)
		checkForbidden(t, "Sec-A", true)
		checkForbidden(t, "sec", false)
		checkHeader(t, "accept", "a", true)
		checkHeader(t, "accept", ":", false)
		checkUnsafe(t, lines("b: 1", "accept: :", "A: 1"), "a", "accept", "b")
		checkUnsafe(t, nil)
		checkUnsafe(t, lines("c: 1"), "c")
	}
}

// FuzzSafe takes its list from the lines of a text.
func FuzzSafe(f *testing.F) {
	f.Add("get", "Accept", "*/*", "a: 1\nB: 2\naccept: (")
	f.Add("", "", "", "")
	f.Add("Track", "content-type", "\ttext/plain ;x", "Content-Type: text/plain\ncontent-type: \xFF")
	f.Add("TRACE", "sec-a", "d/e", "content-language: de\nSec-: x")
	f.Fuzz(func(t *testing.T, method, name, value, text string) {
		checkOtherThan(t, method)
		checkForbidden(t, name, plainForbidden(name))
		checkHeader(t, name, value, plainHeader(api.Header{Name: name, Value: value}))
		for _, known := range safeNames {
			checkHeader(t, known, value, plainHeader(api.Header{Name: known, Value: value}))
		}
		list := append(lines(strings.Split(text, "\n")...), api.Header{Name: name, Value: value})
		checkUnsafe(t, list, plainUnsafe(list)...)
	})
}
