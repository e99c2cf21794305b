package fetch

import (
	"fmt"
	"math"
	"slices"
	"strings"
	"testing"

	"pursuivant/api"
)

// modes holds all modes.
var modes = []int{api.SameOrigin, api.NoCors, api.Cors}

// numbers holds the fields of a request that are numbers, and their limits.
var numbers = []struct {
	name string
	most int
	set  func(r *api.Request, n int)
}{
	{"Mode", 3, func(r *api.Request, n int) { r.Mode = n }},
	{"Cred", 3, func(r *api.Request, n int) { r.Cred = n }},
	{"Redirect", 3, func(r *api.Request, n int) { r.Redirect = n }},
	{"Dest", 10, func(r *api.Request, n int) { r.Dest = n }},
}

// texts holds the fields of a request that are texts, and their limits.
var texts = []struct {
	name string
	most int
	set  func(r *api.Request, s string)
}{
	{"Method", 512, func(r *api.Request, s string) { r.Method = s }},
	{"Nonce", 512, func(r *api.Request, s string) { r.Nonce = s }},
	{"URL", 2048, func(r *api.Request, s string) { r.URL = s }},
	{"Body", 2048, func(r *api.Request, s string) { r.Body = s }},
}

func TestGoodNumbers(t *testing.T) {
	for _, field := range numbers {
		check := func(n int) {
			t.Helper()
			checkGood(t, withRequest(request("GET", here, api.Cors), func(r *api.Request) { field.set(r, n) }), 1 <= n && n <= field.most)
		}
		for n := -600; n <= 600; n++ {
			check(n)
		}
		for _, n := range extremes {
			check(n)
			check(^n)
		}
		for n := range field.most + 2 {
			for _, bit := range []int{8, 16, 31, 32, 62} {
				check(n + 1<<bit)
				check(n - 1<<bit)
				check(-n + 1<<bit)
			}
			check(math.MinInt + n)
			check(math.MaxInt - n)
		}
	}
}

// TestGoodNumbersTogether has all four of them, in and out of their limits.
func TestGoodNumbersTogether(t *testing.T) {
	for mode := -1; mode <= 5; mode++ {
		for cred := -1; cred <= 5; cred++ {
			for redirect := -1; redirect <= 5; redirect++ {
				for dest := -1; dest <= 12; dest++ {
					r := api.Request{Mode: mode, Cred: cred, Redirect: redirect, Dest: dest}
					good := mode > 0 && mode < 4 && cred > 0 && cred < 4 && redirect > 0 && redirect < 4 && dest > 0 && dest < 11
					if Good(r) != good {
						t.Errorf("Good(%s) = %v", show(r), !good)
					}
				}
			}
		}
	}
	checkGood(t, api.Request{}, false)
	checkGood(t, api.Request{Mode: 1, Cred: 1, Redirect: 1, Dest: 1}, true)
	checkGood(t, api.Request{Mode: 3, Cred: 3, Redirect: 3, Dest: 10}, true)
}

func TestGoodLengths(t *testing.T) {
	for _, field := range texts {
		check := func(s string, want bool) {
			t.Helper()
			checkGood(t, withRequest(request("GET", here, api.Cors), func(r *api.Request) { field.set(r, s) }), want)
			// It is the only text.
			r := api.Request{Mode: 1, Cred: 2, Redirect: 3, Dest: 4}
			field.set(&r, s)
			checkGood(t, r, want)
		}
		for _, unit := range []string{"x", "A", " ", "\x00", "\xFF", "/"} {
			for _, n := range []int{0, 1, 2, 64, 65, 255, 256, 511, 512, field.most - 2, field.most - 1, field.most} {
				check(strings.Repeat(unit, n), true)
			}
			for _, n := range []int{1, 2, 3, 255, 256, field.most, 4096, 65536, 65536 - field.most} {
				check(strings.Repeat(unit, field.most+n), false)
			}
		}
		// Bytes are counted, not letters.
		letters := strings.Repeat("\u00E9", field.most/2)
		check(letters, true)
		check(letters+"x", false)
		check(letters+"\u00E9", false)
	}
}

// TestGoodLengthsTogether has each two texts.
func TestGoodLengthsTogether(t *testing.T) {
	for set := range 1 << len(texts) {
		r := request("GET", here, api.NoCors)
		for i, field := range texts {
			field.set(&r, strings.Repeat("x", field.most+set>>i&1))
		}
		checkGood(t, r, set == 0)
	}
	for i, one := range numbers {
		for _, other := range texts {
			r := request("GET", here, api.SameOrigin)
			other.set(&r, strings.Repeat("x", other.most))
			one.set(&r, one.most)
			checkGood(t, r, true)
			one.set(&r, one.most+1)
			checkGood(t, r, false)
			other.set(&r, strings.Repeat("x", other.most+1))
			checkGood(t, r, false)
			one.set(&r, 1)
			checkGood(t, r, false)
			numbers[(i+1)%4].set(&r, 0)
			checkGood(t, r, false)
		}
	}
}

func TestGoodNumberOfHeaders(t *testing.T) {
	for n := range 60 {
		for _, h := range []api.Header{{}, {Name: "X", Value: "y"}, {Name: strings.Repeat("n", 512), Value: strings.Repeat("v", 512)}} {
			r := request("GET", here, api.Cors)
			r.Headers = slices.Repeat([]api.Header{h}, n)
			checkGood(t, r, n <= 24)
		}
	}
	for _, n := range []int{255, 256, 257, 280, 65536, 65536 + 24} {
		checkGood(t, withRequest(request("GET", here, api.Cors), func(r *api.Request) { r.Headers = make([]api.Header, n) }), false)
	}
}

// TestGoodHeaders has a long name and a long value, at each place.
func TestGoodHeaders(t *testing.T) {
	for _, number := range []int{1, 2, 3, 12, 23, 24} {
		for _, i := range []int{0, number / 2, number - 1} {
			for _, n := range []int{0, 1, 64, 65, 128, 511, 512, 513, 514, 768, 1024, 2048, 65536, 65536 + 5} {
				for _, unit := range []string{"x", "\xFF"} {
					long := strings.Repeat(unit, n)
					for _, h := range []api.Header{{Name: long}, {Value: long}, {Name: long, Value: "v"}, {Name: "n", Value: long}, {Name: long, Value: long}} {
						r := request("PUT", there, api.Cors)
						r.Headers = named(slices.Repeat([]string{"X-A"}, number)...)
						r.Headers[i] = h
						checkGood(t, r, n <= 512)
					}
				}
			}
		}
	}
	for _, list := range [][]api.Header{nil, {}, make([]api.Header, 0, 99)} {
		checkGood(t, withRequest(request("GET", here, api.Cors), func(r *api.Request) { r.Headers = list }), true)
	}
	// Together, a name and a value have no limit, and neither have all of them.
	half := strings.Repeat("x", 257)
	checkGood(t, withRequest(request("GET", here, api.Cors), func(r *api.Request) { r.Headers = []api.Header{{Name: half, Value: half}} }), true)
	checkGood(t, withRequest(request("GET", here, api.Cors), func(r *api.Request) {
		r.Headers = slices.Repeat([]api.Header{{Name: half, Value: half}}, 25)
	}), false)
}

// wrongURLs holds texts that are no URLs.
var wrongURLs = []string{
	"", "x", "/", "//a", "http", "http:", "http:/a", "http://", "http:///", "http://@a/", "http://a:0/", "http://a:080/", "http://a:65536/", "http://a:/", "http://a_b/", "http://-a/", "http://a./", "ftp://a/", "ws://a/", "about:blank", "data:,x",
	" http://a/", "http://a/ ", "http://a/b c", "http://a/\x00", "http://a/\xFF", "http://a/\u00E9", "http://a/<", "http://a/?\"", "http://a/#`", "http://[::1]/", "http://u v@a/",
	"http://a/" + strings.Repeat("x", 1016), "http://a/#" + strings.Repeat("x", 2038), "http://" + strings.Repeat("u", 129) + "@a/", strings.Repeat("\xFF", 2048), strings.Repeat("http://a/", 200),
}

// wrongHeaders holds headers that are not valid.
func wrongHeaders() []api.Header {
	out := named("", " ", "a b", "a:", "a\x00", "\xFF", "\u00E9", "a,b", "a/b", "(a)", "a\n", "a\t", strings.Repeat("n", 65), strings.Repeat("n", 512))
	for _, value := range []string{" ", "\t", " a", "a ", "\ta", "a\t", "a\nb", "\r", "\x00", "\x1F", "\x7F", "\xFF", "\u00E9", "a\x00b"} {
		out = append(out, api.Header{Name: "X-A", Value: value}, api.Header{Name: "Accept", Value: value}, api.Header{Name: "Cookie", Value: value})
	}
	return append(out, api.Header{Name: "a b", Value: "\n"}, api.Header{})
}

// wrongMethods holds methods that are no tokens or forbidden.
func wrongMethods() []string {
	out := slices.Concat([]string{"", " ", "a b", " GET", "GET ", "GET\t", "\tGET", "GET\x00", "GET\n", "GE T", "\xFF", "GET\xFF", "G\u00E9T", "GET,POST", "GET/", "(GET)", "GET;", "\"GET\"", "{}", "GET:", "@", "=", "[", "\\", "?", "<", ">", "PO\u017FT", "TRAC\u212A", strings.Repeat(" ", 512)},
		cases("CONNECT"), cases("TRACE"), cases("TRACK"))
	for c := range 256 {
		if !strings.Contains(tokenBytes, string([]byte{byte(c)})) {
			out = append(out, string([]byte{byte(c)}), "GET"+string([]byte{byte(c)}), string([]byte{byte(c)})+"PUT", "PO"+string([]byte{byte(c)})+"ST")
		}
	}
	return out
}

const tokenBytes = "abcdefghijklmnopqrstuvwxyzABCDEFGHIJKLMNOPQRSTUVWXYZ0123456789!#$%&'*+-.^_`|~"

// TestGoodOfWrong has requests that are valid, although no fetch begins.
func TestGoodOfWrong(t *testing.T) {
	r := request("GET", here, api.NoCors)
	for _, s := range wrongURLs {
		checkGood(t, withRequest(r, func(r *api.Request) { r.URL = s }), true)
	}
	for _, s := range wrongMethods() {
		checkGood(t, withRequest(r, func(r *api.Request) { r.Method = s }), true)
	}
	for _, h := range append(wrongHeaders(), named("Cookie", "Origin", "sec-x")...) {
		checkGood(t, withRequest(r, func(r *api.Request) { r.Headers = []api.Header{h, h} }), true)
		checkGood(t, withRequest(r, func(r *api.Request) {
			r.URL, r.Method, r.Nonce, r.Body, r.Headers = h.Name, h.Value, h.Value, h.Name, []api.Header{h}
		}), true)
	}
	checkGood(t, withRequest(r, func(r *api.Request) { r.Method, r.URL, r.Nonce, r.Body, r.Headers = "", "", "", "", nil }), true)
}

// begun returns the fetch that begins with r as it is.
func begun(r api.Request) api.Fetch {
	return api.Fetch{Request: r, From: here, Taint: api.EndBasic}
}

// checkBegins checks a request that goes on as another one.
func checkBegins(t *testing.T, r, want api.Request) {
	t.Helper()
	checkBegin(t, config(), r, begun(want), 0)
}

// checkNone checks a request that ends at once.
func checkNone(t *testing.T, r api.Request, end int) {
	t.Helper()
	checkBegin(t, config(), r, api.Fetch{}, end)
}

func TestBeginOfWrongURLs(t *testing.T) {
	for _, mode := range modes {
		for _, s := range wrongURLs {
			checkNone(t, request("GET", s, mode), api.EndURL)
			// What else is wrong does not count.
			checkNone(t, request("", s, mode), api.EndURL)
			checkNone(t, request("TRACE", s, mode), api.EndURL)
			checkNone(t, request("PUT", s, mode), api.EndURL)
			checkNone(t, withRequest(request("POST", s, mode), func(r *api.Request) { r.Headers = lines("a b: x") }), api.EndURL)
			checkNone(t, withRequest(request("a b", s, mode), func(r *api.Request) { r.Headers = lines("a b: x") }), api.EndURL)
		}
	}
}

// TestBeginTexts has URLs and their texts.
func TestBeginTexts(t *testing.T) {
	user := strings.Repeat("u", 128)
	long := strings.Repeat("x", 1024-len("http://b.example/"))
	for _, c := range [][2]string{
		{"http://a", "http://a/"}, {"HTTP://A", "http://a/"}, {"hTTps://A.Example", "https://a.example/"}, {"http://a:80", "http://a/"}, {"https://a:443/", "https://a/"}, {"http://a:443", "http://a:443/"}, {"https://a:80?", "https://a:80/?"},
		{"http://a?x", "http://a/?x"}, {"http://a#x", "http://a/#x"}, {"http://a/?#", "http://a/?#"}, {"http://a/#", "http://a/#"}, {"http://a/A?B#C", "http://a/A?B#C"}, {"http://A/A?B#C", "http://a/A?B#C"}, {"http://a/./b/../c", "http://a/./b/../c"}, {"http://a//", "http://a//"}, {"http://a/%41", "http://a/%41"},
		{"http://U:P@A:80", "http://U:P@a/"}, {"http://u@v@a/", ""}, {"HTTP://" + user + "@B.EXAMPLE:80/" + long, "http://" + user + "@b.example/" + long}, {here, here + "/"}, {here + "/", here + "/"}, {here + "/x#y", here + "/x#y"}, {"HTTPS://A.EXAMPLE:8443?#", here + "/?#"},
		{"HTTP://a:80/HTTP://A:80", "http://a/HTTP://A:80"}, {"http://a/?HTTP://A:80", "http://a/?HTTP://A:80"}, {"http://a/:80", "http://a/:80"}, {"http://A:8080", "http://a:8080/"}, {"http://A:65535/x", "http://a:65535/x"},
	} {
		for _, mode := range modes {
			if c[1] == "" {
				checkNone(t, request("GET", c[0], mode), api.EndURL)
				continue
			}
			checkBegins(t, request("GET", c[0], mode), request("GET", c[1], mode))
		}
	}
}

func TestBeginOfWrongMethods(t *testing.T) {
	for _, mode := range modes {
		for _, s := range wrongMethods() {
			checkNone(t, request(s, here+"/", mode), api.EndMethod)
		}
		for _, s := range []string{"", "a b", "connect", "TRACE", "Track"} {
			checkNone(t, withRequest(request(s, there, mode), func(r *api.Request) { r.Headers = lines("a b: x") }), api.EndMethod)
			checkNone(t, withRequest(request(s, there, mode), func(r *api.Request) { r.Headers = nil }), api.EndMethod)
		}
	}
}

// TestBeginMethods has all other methods. Those that are not simple do not go
// together with NoCors.
func TestBeginMethods(t *testing.T) {
	check := func(method, want string, simple bool) {
		t.Helper()
		for _, mode := range modes {
			if mode == api.NoCors && !simple {
				checkNone(t, request(method, there+"/", mode), api.EndMethod)
			} else {
				checkBegins(t, request(method, there+"/", mode), request(want, there+"/", mode))
			}
		}
	}
	for _, method := range []string{"GET", "HEAD", "POST"} {
		for _, s := range cases(method) {
			check(s, method, true)
		}
	}
	for _, method := range []string{"DELETE", "OPTIONS", "PUT"} {
		for _, s := range cases(method) {
			check(s, method, false)
		}
	}
	others := []string{"PATCH", "patch", "Patch", "QUERY", "*", "!", "~", "a", "Z", "0", "x-y", "GET-", "GETPOST", "CONNECTS", "TRAC", "TRACKE", "trace.", "connec", "search", "PROPFIND", tokenBytes, strings.Repeat("p", 512), strings.Repeat("GET", 170)}
	for _, method := range []string{"delete", "get", "head", "options", "post", "put"} {
		for _, s := range near(method) {
			// Some differ by the case of a letter only.
			if low(s) != method {
				others = append(others, s, strings.ToUpper(s))
			}
		}
	}
	for _, s := range others {
		check(s, s, false)
	}
	for _, c := range tokenBytes {
		check(string(c), string(c), false)
	}
}

func TestBeginOfWrongHeaders(t *testing.T) {
	for _, mode := range modes {
		for _, h := range wrongHeaders() {
			for _, number := range []int{1, 3, 24} {
				for _, i := range []int{0, number / 2, number - 1} {
					r := request("GET", there, mode)
					r.Headers = slices.Repeat(lines("Accept: x"), number)
					r.Headers[i] = h
					checkNone(t, r, api.EndHeader)
					r.Method = "PUT"
					checkNone(t, r, api.EndHeader)
				}
			}
		}
	}
	// The greatest ones are valid.
	for _, mode := range []int{api.SameOrigin, api.Cors} {
		r := request("GET", there+"/", mode)
		r.Headers = slices.Repeat([]api.Header{{Name: strings.Repeat("n", 64), Value: strings.Repeat("v", 512)}}, 24)
		checkBegins(t, r, r)
	}
}

// TestOrderOfFirstEnds has each set of the four reasons for an end.
func TestOrderOfFirstEnds(t *testing.T) {
	for set := range 16 {
		for _, wrong := range []string{"", "tRaCe", "x y"} {
			for _, odd := range []string{"PUT", "patch", "delete", "Options", "GETS"} {
				r := request("GET", there+"/", api.Cors)
				if set&8 != 0 {
					r.Mode, r.Method = api.NoCors, odd
				}
				if set&4 != 0 {
					r.Headers = append(r.Headers, lines("X-A: a\x00")...)
				}
				if set&2 != 0 {
					r.Method = wrong
				}
				if set&1 != 0 {
					r.URL = "http:/" + there
				}
				switch {
				case set&1 != 0:
					checkNone(t, r, api.EndURL)
				case set&2 != 0:
					checkNone(t, r, api.EndMethod)
				case set&4 != 0:
					checkNone(t, r, api.EndHeader)
				case set&8 != 0:
					checkNone(t, r, api.EndMethod)
				default:
					checkBegins(t, r, r)
				}
			}
		}
	}
}

// forbidden returns names of headers that are not sent.
func forbidden() []string {
	return strings.Fields("accept-charset accept-encoding access-control-request-headers access-control-request-method connection content-length cookie cookie2 date dnt expect host keep-alive origin referer set-cookie te trailer transfer-encoding upgrade via " +
		"proxy- proxy-authorization proxy-x proxy-- sec- sec-fetch-mode sec-x sec-. sec-sec-")
}

// isForbidden is by the names and beginnings that the document has.
func isForbidden(name string) bool {
	return strings.HasPrefix(low(name), "proxy-") || strings.HasPrefix(low(name), "sec-") || slices.Contains(forbidden(), low(name))
}

// checkStays checks which of the headers stay with each mode but NoCors, and
// which with NoCors.
func checkStays(t *testing.T, list, others, noCors []api.Header) {
	t.Helper()
	for _, mode := range modes {
		r := request("POST", there+"/", mode)
		r.Headers = list
		want := r
		if want.Headers = others; mode == api.NoCors {
			want.Headers = noCors
		}
		checkBegins(t, r, want)
	}
}

func TestForbidden(t *testing.T) {
	safe := lines("Accept: a", "ACCEPT-language: b", "content-type: text/plain")
	for _, name := range forbidden() {
		for _, s := range cases(name) {
			h := api.Header{Name: s, Value: "x"}
			checkStays(t, []api.Header{h}, nil, nil)
			checkStays(t, []api.Header{h, h, {Name: s}}, nil, nil)
			checkStays(t, []api.Header{h, safe[0], h, safe[1], safe[2], h, h}, safe, safe)
			checkStays(t, []api.Header{{Name: "X-A", Value: s}, h, safe[0], {Name: low(s)}, {Name: "x-b"}}, []api.Header{{Name: "X-A", Value: s}, safe[0], {Name: "x-b"}}, safe[:1])
		}
		for _, s := range near(name) {
			list := []api.Header{{Name: s, Value: "x"}}
			if !isForbidden(s) {
				checkStays(t, list, list, nil)
			}
		}
	}
	all := named(forbidden()[:24]...)
	checkStays(t, all, nil, nil)
	list := slices.Concat(all[:11], safe[:1], all[11:20], safe[1:])
	checkStays(t, list, safe, safe)
	free := named("Authorization", "X-Cookie", "Cookies", "proxy", "sec", "Sec_", "X-Sec-", "X-Proxy-A", "Access-Control-Request", "Access-Control-Allow-Origin", "Content-Length2", "origins", "Referrer", "User-Agent", "*", "tea", "Location", "If-None-Match", "Range", "Set-Cookie2", "accept-charse", "hosts", "vi", "d")
	checkStays(t, free, free, nil)
}

// TestSafelisted has headers that stay with NoCors and such that do not.
func TestSafelisted(t *testing.T) {
	stays := lines("accept: ", "accept: */*", "Accept: text/html;q=0.9, a\tb", "ACCEPT: "+strings.Repeat("a", 128), "accept-language: ", "accept-language: en-US, de;q=0.5", "Accept-Language: *", "content-language: ", "CONTENT-language: en", "Content-Language: "+strings.Repeat("z", 128),
		"content-type: text/plain", "Content-Type: TEXT/Plain ;charset=utf-8", "CONTENT-TYPE: application/x-www-form-urlencoded", "content-type: multipart/form-data; boundary=x", "Accept: '!#$%&*+,-./;=^_`|~", "accept-language: Aa 0,*-.;=z", "content-type: text/plain;"+strings.Repeat("x", 117))
	goes := lines("accept: \"", "accept: (", "accept: a:b", "accept: <", "accept: >", "accept: ?", "accept: @", "accept: [", "accept: \\", "accept: ]", "accept: {}", "Accept: "+strings.Repeat("a", 129), "accept-language: en_US", "accept-language: /", "accept-language: a\tb", "content-language: (", "content-language: "+strings.Repeat("z", 129),
		"content-type: ", "content-type: text/html", "content-type: application/json", "content-type: text/plain, x", "content-type: text/plain;a:b", "content-type: text/plain;"+strings.Repeat("x", 119), "Content-Type: ;text/plain", "X-A: ", "x: y", "Authorization: x", "accepts: a", "accept-: a", "content: text/plain", "content-encoding: x", "Range: bytes=0-", "If-Match: *", "accept_language: en", "Content-Type-: text/plain")
	for _, h := range stays {
		checkStays(t, []api.Header{h}, []api.Header{h}, []api.Header{h})
		checkStays(t, []api.Header{h, h}, []api.Header{h, h}, []api.Header{h, h})
		for _, other := range goes {
			checkStays(t, []api.Header{other}, []api.Header{other}, nil)
			list := []api.Header{other, h, h, other, other, stays[0]}
			checkStays(t, list, list, []api.Header{h, h, stays[0]})
			list = []api.Header{h, other}
			checkStays(t, list, list, list[:1])
		}
	}
	checkStays(t, stays, stays, stays)
	checkStays(t, goes[:24], goes[:24], nil)
	for _, list := range [][]api.Header{nil, {}, make([]api.Header, 0, 9)} {
		checkStays(t, list, nil, nil)
	}
}

// TestOrderOfHeaders has each set of some headers, in two orders.
func TestOrderOfHeaders(t *testing.T) {
	all := lines("Accept: 1", "Cookie: 2", "X-A: 3", "accept: 4", "Sec-X: 5", "Content-Type: text/plain", "x-a: 7", "HOST: 8", "Accept: (9)")
	for set := range 1 << len(all) {
		for shift := range 2 {
			var list, others, noCors []api.Header
			for i := range all {
				k := (i*2 + shift) % len(all)
				if set>>i&1 == 0 {
					continue
				}
				list = append(list, all[k])
				if k != 1 && k != 4 && k != 7 {
					others = append(others, all[k])
				}
				if k == 0 || k == 3 || k == 5 {
					noCors = append(noCors, all[k])
				}
			}
			checkStays(t, list, others, noCors)
		}
	}
}

// TestFrom has texts of configs, and those of their origins.
func TestFrom(t *testing.T) {
	for _, c := range [][2]string{
		{here, here}, {"http://a", "http://a"}, {"https://a", "https://a"}, {"http://a:443", "http://a:443"}, {"https://a:80", "https://a:80"}, {"http://a.b-c.d0:65535", "http://a.b-c.d0:65535"},
		{"null", "null"}, {"", "null"}, {"x", "null"}, {"NULL", "null"}, {" null", "null"}, {"null ", "null"}, {"\xFF", "null"}, {"*", "null"}, {"http://", "null"}, {"http://a/", "null"}, {"http://a/x", "null"}, {"http://a?", "null"}, {"http://a#", "null"}, {"http://u@a", "null"}, {"HTTP://a", "null"}, {"http://A", "null"}, {"http://a:80", "null"}, {"https://a:443", "null"},
		{"http://a:0", "null"}, {"http://a:080", "null"}, {"http://a:65536", "null"}, {"ftp://a", "null"}, {"http://a_b", "null"}, {" http://a", "null"}, {"http://a ", "null"}, {"a", "null"}, {"//a", "null"}, {"http://a, http://b", "null"}, {strings.Repeat("x", 9999), "null"},
	} {
		for _, mode := range modes {
			// The URL does not count.
			for _, to := range []string{"http://a/", here + "/", "https://a/"} {
				r := request("GET", to, mode)
				want := begun(r)
				want.From = c[1]
				checkBegin(t, api.Config{Self: c[0]}, r, want, 0)
				checkBegin(t, api.Config{Self: c[0], Policies: []string{"default-src 'none'", "x", "http://b"}, Memo: -5}, r, want, 0)
			}
		}
	}
}

// TestBeginFields has values in all fields that nothing depends on.
func TestBeginFields(t *testing.T) {
	for _, mode := range modes {
		for n := 1; n <= 10; n++ {
			cred, redirect := n%3+1, (n+1)%3+1
			for _, text := range []string{"", "x", "\x00\xFF", "nonce", "http://c", strings.Repeat("\xFF", 512)} {
				r := api.Request{Method: "GET", URL: there + "/", Mode: mode, Cred: cred, Redirect: redirect, Dest: n, Nonce: text, Body: text + text}
				checkBegins(t, r, r)
				r.Headers = lines("Accept: a", "Accept: b")
				checkBegins(t, r, r)
				for _, s := range []string{"GET", "head", "POST"} {
					want := r
					r.Method, want.Method = s, strings.ToUpper(s)
					checkBegins(t, r, want)
				}
				for _, c := range []struct {
					change func(r *api.Request)
					end    int
				}{
					{func(r *api.Request) { r.URL = "x" }, api.EndURL}, {func(r *api.Request) { r.Method = "track" }, api.EndMethod}, {func(r *api.Request) { r.Headers[1].Value = "\n" }, api.EndHeader},
				} {
					checkNone(t, withRequest(r, c.change), c.end)
				}
			}
		}
	}
	for _, body := range []string{strings.Repeat("b", 2048), strings.Repeat("\x00", 2047)} {
		r := withRequest(request("POST", there+"/", api.NoCors), func(r *api.Request) { r.Body = body })
		checkBegins(t, r, r)
	}
}

// TestBeginUnspecified has requests that are not valid, for which nothing is
// specified but that the call ends.
func TestBeginUnspecified(t *testing.T) {
	for _, n := range extremes {
		for _, field := range numbers {
			for _, text := range []string{"", "GET", "x y", strings.Repeat("x", 9999)} {
				r := withRequest(request(text, there, api.Cors), func(r *api.Request) {
					field.set(r, n)
					r.Headers = slices.Repeat(lines("a: b"), len(text)%99)
				})
				check := lendHeaders(t, &r.Headers, true)
				Begin(config(), r)
				Begin(api.Config{}, withRequest(r, func(r *api.Request) { r.URL = text }))
				check()
			}
		}
	}
	if f, end := Begin(api.Config{}, api.Request{}); end != api.EndURL || !same(f, api.Fetch{}) {
		t.Error(fmt.Sprint(f, end))
	}
}
