package pre

import (
	"fmt"
	"math"
	"math/big"
	"math/rand"
	"regexp"
	"slices"
	"strings"
	"testing"

	"pursuivant/api"
	"pursuivant/cors"
)

const (
	originName  = "access-control-allow-origin"
	credName    = "access-control-allow-credentials"
	methodsName = "access-control-allow-methods"
	headersName = "access-control-allow-headers"
	ageName     = "access-control-max-age"

	here = "https://a.example:8443"
)

// otherCreds holds numbers that are not Include; some have the lowest bits of it.
var otherCreds = []int{
	1, 2, 0, -1, -2, -3, -4, 4, 5, 7, 99, 1<<8 + 3, 1<<16 + 3, 1<<31 - 1, 1<<32 + 3, -1<<31 + 3, -1<<8 + 3,
	math.MaxInt, math.MaxInt - 1, math.MinInt, math.MinInt + 3,
}

// simple returns headers that are safelisted.
func simple() []api.Header {
	return lines("Accept: */*", "accept-language: de, en;q=0.5", "CONTENT-Language: fr", "Content-Type: text/plain;charset=utf-8")
}

// lines returns the headers that are written as name: value.
func lines(texts ...string) []api.Header {
	var out []api.Header
	for _, text := range texts {
		name, value, _ := strings.Cut(text, ": ")
		out = append(out, api.Header{Name: name, Value: value})
	}
	return out
}

// each returns a header of a name for each of the values.
func each(name string, values ...string) []api.Header {
	var out []api.Header
	for _, value := range values {
		out = append(out, api.Header{Name: name, Value: value})
	}
	return out
}

// readable returns headers that let here read a response with any credentials,
// and others.
func readable(others ...api.Header) []api.Header {
	return append(append(each(originName, here), each(credName, "true")...), others...)
}

// behind holds what lies behind the length of a list of headers, where it must
// change nothing.
func behind() []api.Header {
	return lines("X-Behind: 1", originName+": *", methodsName+": PUT, a b", headersName+": x, a b", ageName+": 1")
}

// cases returns a text of ASCII in lower, upper and mixed case, and with a
// single letter in the other case at each place.
func cases(s string) []string {
	low, up := strings.ToLower(s), strings.ToUpper(s)
	out := []string{low, up}
	mixed := ""
	for i := range len(s) {
		mixed += []string{low, up}[i%2][i : i+1]
		out = append(out, low[:i]+up[i:i+1]+low[i+1:], up[:i]+low[i:i+1]+up[i+1:])
	}
	return append(out, mixed)
}

// near returns names that differ from one by a byte: removed, added or changed.
func near(name string) []string {
	var out []string
	for i := range len(name) + 1 {
		for _, c := range []string{"a", "s", "-", " ", ":", "\x00", "\xFF"} {
			out = append(out, name[:i]+c+name[i:])
			if i < len(name) && name[i:i+1] != c {
				out = append(out, name[:i]+c+name[i+1:])
			}
		}
		if i < len(name) {
			out = append(out, name[:i]+name[i+1:])
		}
	}
	return out
}

// inserted returns lists that have a header before, within and behind others.
func inserted(h api.Header, others []api.Header) [][]api.Header {
	var out [][]api.Header
	for i := range len(others) + 1 {
		out = append(out, slices.Insert(slices.Clone(others), i, h))
	}
	return out
}

// text returns one byte.
func text(c int) string {
	return string([]byte{byte(c)})
}

// show writes out a value, as far as a line has room for it.
func show(v any) string {
	return fmt.Sprintf("%.300s", fmt.Sprintf("%q", v))
}

// fill overwrites a list and what lies behind its length.
func fill[T any](list []T, with T) {
	list = list[:cap(list)]
	for i := range list {
		list[i] = with
	}
}

// checkKept checks that a list and what lies behind it are as before. It must
// follow each call, since a second one may undo a change.
func checkKept[T comparable](t *testing.T, list, before []T) {
	t.Helper()
	if !slices.Equal(list, before) {
		t.Errorf("of the list %s and what lies behind it, %s is left", show(before), show(list))
	}
}

// checkNeeds calls Needs with the list, and twice with one that has headers
// behind its length.
func checkNeeds(t *testing.T, method string, list []api.Header, want bool) {
	t.Helper()
	all := slices.Concat(list, behind())
	before := slices.Clone(all)
	for _, one := range [][]api.Header{list, all[:len(list)], all[:len(list)]} {
		if got := Needs(method, one); got != want {
			t.Errorf("Needs(%.100q, %s) = %v", method, show(list), got)
		}
		checkKept(t, one, before[:len(list)])
		checkKept(t, all, before)
	}
}

// checkAsk calls Ask like checkNeeds, and checks that its results share no
// memory with each other or with the list.
func checkAsk(t *testing.T, from, method string, list []api.Header, want []api.Header) {
	t.Helper()
	all := slices.Concat(list, behind())
	before := slices.Clone(all)
	var results [][]api.Header
	for _, one := range [][]api.Header{list, all[:len(list)], all[:len(list)]} {
		got := Ask(from, method, one)
		if !slices.Equal(got, want) {
			t.Errorf("Ask(%.100q, %.100q, %s) = %s, want %s", from, method, show(list), show(got), show(want))
		}
		checkKept(t, one, before[:len(list)])
		checkKept(t, all, before)
		results = append(results, got)
	}
	fill(results[1], api.Header{Name: "changed"})
	checkKept(t, all, before)
	fill(all, api.Header{Name: "changed"})
	if second := results[2]; !slices.Equal(second, want) {
		t.Errorf("a change of the list or of another result changed %s to %s", show(want), show(second))
	}
}

// asked returns what Ask must return for the names.
func asked(from, method string, names ...string) []api.Header {
	out := []api.Header{{Name: "Accept", Value: "*/*"}, {Name: "Access-Control-Request-Method", Value: method}}
	if names != nil {
		out = append(out, api.Header{Name: "Access-Control-Request-Headers", Value: strings.Join(names, ",")})
	}
	return append(out, api.Header{Name: "Origin", Value: from})
}

func same(a, b Answer) bool {
	return slices.Equal(a.Methods, b.Methods) && slices.Equal(a.Headers, b.Headers) && a.Age == b.Age
}

// checkRead calls Read like checkAsk.
func checkRead(t *testing.T, x api.Response, from string, cred int, want Answer, ok bool) {
	t.Helper()
	all := slices.Concat(x.Headers, behind())
	before := slices.Clone(all)
	full := api.Response{Status: x.Status, Headers: all[:len(x.Headers)], Body: x.Body}
	var got []Answer
	for _, one := range []api.Response{x, full, full} {
		a, told := Read(one, from, cred)
		if !same(a, want) || told != ok {
			t.Errorf("Read(%d %s, %.100q, %d) = %s %d, %v, want %s %d, %v", x.Status, show(x.Headers), from, cred, show(a), a.Age, told, show(want), want.Age, ok)
		}
		checkKept(t, one.Headers, before[:len(x.Headers)])
		checkKept(t, all, before)
		got = append(got, a)
	}
	fill(got[1].Methods, "changed")
	if !slices.Equal(got[1].Headers, want.Headers) {
		t.Errorf("the Methods and Headers of %s share memory", show(want))
	}
	fill(got[1].Headers, "changed")
	checkKept(t, all, before)
	fill(all, api.Header{Name: "changed"})
	if !same(got[0], want) || !same(got[2], want) {
		t.Errorf("a change of the list or of another result changed %s", show(want))
	}
}

// checkGood checks a response that here may read, with all credentials.
func checkGood(t *testing.T, others []api.Header, want Answer, ok bool) {
	t.Helper()
	for _, cred := range []int{api.Omit, api.OwnOnly, api.Include} {
		checkRead(t, api.Response{Status: 200, Headers: readable(others...)}, here, cred, want, ok)
	}
}

// checkLets calls Lets with an answer and names that have others behind their
// lengths: these would allow everything, and one more name.
func checkLets(t *testing.T, a Answer, method string, names []string, cred int, want bool) {
	t.Helper()
	methods, headers := slices.Concat(a.Methods, []string{"*", method}), slices.Concat(a.Headers, []string{"*", "authorization"}, names)
	all := slices.Concat(names, []string{"behind", "authorization"})
	full := Answer{Methods: methods[:len(a.Methods)], Headers: headers[:len(a.Headers)], Age: a.Age}
	beforeMethods, beforeHeaders, before := slices.Clone(methods), slices.Clone(headers), slices.Clone(all)
	// The method is one of answers, not of pointers to them.
	lets := Answer.Lets
	if got := lets(a, method, names, cred); got != want {
		t.Errorf("Lets(%.100q, %s, %d) of %s = %v", method, show(names), cred, show(a), got)
	}
	for range 2 {
		if got := full.Lets(method, all[:len(names)], cred); got != want {
			t.Errorf("with others behind its lists, Lets(%.100q, %s, %d) of %s = %v", method, show(names), cred, show(a), got)
		}
		checkKept(t, methods, beforeMethods)
		checkKept(t, headers, beforeHeaders)
		checkKept(t, all, before)
		if !same(full, a) {
			t.Errorf("the answer %s was changed to %s", show(a), show(full))
		}
	}
}

// checkCreds checks all numbers that are not Include, and Include.
func checkCreds(t *testing.T, a Answer, method string, names []string, others, include bool) {
	t.Helper()
	for _, cred := range otherCreds {
		checkLets(t, a, method, names, cred, others)
	}
	checkLets(t, a, method, names, api.Include, include)
}

func TestNumbers(t *testing.T) {
	if api.Omit != 1 || api.OwnOnly != 2 || api.Include != 3 || api.MaxAge != 86400 {
		t.Error(api.Omit, api.OwnOnly, api.Include, api.MaxAge)
	}
	if slices.Contains(otherCreds, 3) || len(otherCreds) < 20 {
		t.Error("the tests take Include for another number")
	}
}

var (
	simpleMethods = []string{"GET", "HEAD", "POST"}
	otherMethods  = []string{
		"", "PUT", "DELETE", "OPTIONS", "PATCH", "CONNECT", "TRACE", "put", "x", "*", " GET", "GET ", "GET\x00", "GETS", "GE",
		"GET,HEAD", "GET, HEAD, POST", "POST\n", "PO\u017FT", "\u00E9", "\xFF", "\xFFGET", "\uFF27\uFF25\uFF34", "null",
	}
)

// simpleLists returns lists whose headers are all safelisted.
func simpleLists() [][]api.Header {
	out := [][]api.Header{nil, {}, make([]api.Header, 0, 9), simple(), slices.Repeat(simple(), 3)}
	for _, h := range simple() {
		out = append(out, []api.Header{h}, []api.Header{h, h})
	}
	return append(out, each("Accept", strings.Repeat("a", 128), "", "a"))
}

// unsafe returns headers that are not safelisted, each for a reason of its own.
func unsafe() []api.Header {
	out := lines("X-A: 1", "x: ", "Authorization: Basic eA==", "Content-Type: application/json", "content-type: ", "ACCEPT: (", "Accept-Language: d_e", "content-language: \xFF", "Range: bytes=0-1", "Cookie: a=b", "Origin: null", "accept-: a", "\xFF: 1", "a b: 1")
	return append(out, api.Header{}, api.Header{Value: "a"}, api.Header{Name: "accept", Value: strings.Repeat("a", 129)})
}

func TestNeedsForMethods(t *testing.T) {
	for _, list := range simpleLists() {
		for _, method := range simpleMethods {
			checkNeeds(t, method, list, false)
			for _, s := range cases(method) {
				checkNeeds(t, s, list, s != method)
			}
		}
		for _, method := range otherMethods {
			checkNeeds(t, method, list, true)
		}
	}
}

// TestNeedsForHeaders has one that is not safelisted at each place.
func TestNeedsForHeaders(t *testing.T) {
	methods := append(slices.Clone(simpleMethods), "get", "Head", "pOST", "PUT", "", "\xFF")
	for _, h := range unsafe() {
		lists := append(inserted(h, simple()), []api.Header{h}, []api.Header{h, h})
		for _, list := range lists {
			for _, method := range methods {
				checkNeeds(t, method, list, true)
			}
		}
	}
	checkNeeds(t, "GET", unsafe(), true)
	checkNeeds(t, "GET", append(slices.Repeat(simple(), 1000), unsafe()[0]), true)
	checkNeeds(t, "GET", slices.Repeat(simple(), 1000), false)
}

// TestAskKnown has results that are written out.
func TestAskKnown(t *testing.T) {
	checkAsk(t, "http://a", "PUT", nil, []api.Header{
		{Name: "Accept", Value: "*/*"},
		{Name: "Access-Control-Request-Method", Value: "PUT"},
		{Name: "Origin", Value: "http://a"},
	})
	checkAsk(t, "null", "x", lines("X-B: 1", "accept: a", "A: 2"), []api.Header{
		{Name: "Accept", Value: "*/*"},
		{Name: "Access-Control-Request-Method", Value: "x"},
		{Name: "Access-Control-Request-Headers", Value: "a,x-b"},
		{Name: "Origin", Value: "null"},
	})
	checkAsk(t, "", "", nil, []api.Header{
		{Name: "Accept", Value: "*/*"},
		{Name: "Access-Control-Request-Method"},
		{Name: "Origin"},
	})
	checkAsk(t, "", "", []api.Header{{}}, []api.Header{
		{Name: "Accept", Value: "*/*"},
		{Name: "Access-Control-Request-Method"},
		{Name: "Access-Control-Request-Headers"},
		{Name: "Origin"},
	})
}

func TestAskWithoutNames(t *testing.T) {
	for _, list := range simpleLists() {
		for _, method := range append(slices.Clone(simpleMethods), otherMethods...) {
			checkAsk(t, here, method, list, asked(here, method))
		}
	}
}

func TestAskWithNames(t *testing.T) {
	for _, one := range []struct {
		list  []api.Header
		names []string
	}{
		{lines("x: 1"), []string{"x"}},
		{lines("X: 1"), []string{"x"}},
		{lines("accept: a", "X: 1", "Accept: b"), []string{"x"}},
		{lines("c: 1", "a: 2", "b: 3"), []string{"a", "b", "c"}},
		{lines("C: 1", "b: 2", "A: 3"), []string{"a", "b", "c"}},
		{lines("B: 1", "a: 2", "accept: (", "C: 3"), []string{"a", "accept", "b", "c"}},
		{lines("x: 1", "X: 2", "x: 3"), []string{"x"}},
		{lines("Ab: 1", "c: 1", "aB: 2", "C: 3", "AB: 4", "ab: 5"), []string{"ab", "c"}},
		{lines("Content-Type: text/html", "Authorization: b", "content-TYPE: x", "accept: a"), []string{"authorization", "content-type"}},
		{lines("accept: a", "Accept: (", "ACCEPT: b"), []string{"accept"}},
		{lines("X-2: 1", "X-10: 1", "X-1: 1", "x_: 1", "X.: 1"), []string{"x-1", "x-10", "x-2", "x.", "x_"}},
		{lines("Origin: o", "Access-Control-Request-Method: m", "Access-Control-Request-Headers: h", "Accept: <"), []string{"accept", "access-control-request-headers", "access-control-request-method", "origin"}},
		{lines("\xFFA: 1", "\u00C9: 2", "a b: 3", "A,B: 4", ",: 5"), []string{",", "a b", "a,b", "\u00C9", "\xFFa"}},
		{[]api.Header{{Name: "b"}, {}, {Value: "x"}, {Name: "A"}}, []string{"", "a", "b"}},
		{[]api.Header{{}, {}, {Value: "1"}}, []string{""}},
		{append(simple(), api.Header{}), []string{""}},
		{[]api.Header{{Name: strings.Repeat("N", 5000), Value: "1"}}, []string{strings.Repeat("n", 5000)}},
	} {
		checkAsk(t, here, "PUT", one.list, asked(here, "PUT", one.names...))
		checkAsk(t, "", "", one.list, asked("", "", one.names...))
		slices.Reverse(one.list)
		checkAsk(t, here, "GET", one.list, asked(here, "GET", one.names...))
		for _, h := range simple() {
			for _, list := range inserted(h, one.list) {
				checkAsk(t, "null", "*", list, asked("null", "*", one.names...))
			}
		}
	}
	for _, name := range cases("x-name") {
		for _, list := range inserted(api.Header{Name: name}, append(simple(), lines("Z: 1", "m: 2")...)) {
			checkAsk(t, here, "PUT", list, asked(here, "PUT", "m", "x-name", "z"))
		}
	}
}

func TestAskWithTexts(t *testing.T) {
	texts := append(cases("http://a-z"), "", "null", "NULL", "*", " ", " a ", "\t", "a, b", "a\r\nb: c", "\x00", "\x7F", "\u00E9", "\u00C9", "\u017F", "\u212A", "\xFF", "\xC3\x28", "\xED\xA0\x80", "get", "Put", "dElEtE", "connect", strings.Repeat("y", 3000))
	for _, from := range texts {
		for _, method := range texts {
			checkAsk(t, from, method, nil, asked(from, method))
		}
		checkAsk(t, from, "PATCH", lines("b: 1", "A: 1"), asked(from, "PATCH", "a", "b"))
		checkAsk(t, "a", from, lines("b: 1", "A: 1"), asked("a", from, "a", "b"))
	}
	for c := range 256 {
		checkAsk(t, text(c), text(255-c), simple(), asked(text(c), text(255-c)))
	}
}

func TestAskForMany(t *testing.T) {
	var list []api.Header
	var names []string
	for i := range 1000 {
		list = append(list, api.Header{Name: fmt.Sprintf("X-%04d", i*7919%1000)}, api.Header{Name: "accept"}, api.Header{Name: fmt.Sprintf("x-%04d", i)})
		names = append(names, fmt.Sprintf("x-%04d", i))
	}
	checkAsk(t, here, "GET", list, asked(here, "GET", names...))
}

func TestReadKnown(t *testing.T) {
	list := lines("Access-Control-Allow-Origin: *", "Access-Control-Allow-Methods: PUT, delete,X", "Access-Control-Allow-Headers: X-A ,b", "Access-Control-Max-Age: 600", "Vary: Origin")
	want := Answer{Methods: []string{"PUT", "delete", "X"}, Headers: []string{"x-a", "b"}, Age: 600}
	checkRead(t, api.Response{Status: 204, Headers: list, Body: "body"}, here, api.Omit, want, true)
	checkRead(t, api.Response{Status: 204, Headers: list}, "", api.OwnOnly, want, true)
	checkRead(t, api.Response{Status: 204, Headers: list}, here, api.Include, Answer{}, false)
	checkRead(t, api.Response{Status: 200, Headers: lines(originName + ": *")}, here, 1, Answer{Age: 5}, true)
	checkRead(t, api.Response{}, "", 0, Answer{}, false)
	checkRead(t, api.Response{Status: 200}, "", 0, Answer{}, false)
}

func TestReadOfStatus(t *testing.T) {
	others := lines(methodsName+": PUT", headersName+": A", ageName+": 7")
	want := Answer{Methods: []string{"PUT"}, Headers: []string{"a"}, Age: 7}
	read := func(status int) {
		ok := status >= 200 && status < 300
		for _, cred := range []int{api.Omit, api.OwnOnly, api.Include} {
			if ok {
				checkRead(t, api.Response{Status: status, Headers: readable(others...), Body: "b"}, here, cred, want, true)
				checkRead(t, api.Response{Status: status, Headers: readable()}, here, cred, Answer{Age: 5}, true)
			} else {
				checkRead(t, api.Response{Status: status, Headers: readable(others...), Body: "b"}, here, cred, Answer{}, false)
				checkRead(t, api.Response{Status: status, Headers: readable()}, here, cred, Answer{}, false)
			}
			checkRead(t, api.Response{Status: status}, here, cred, Answer{}, false)
			checkRead(t, api.Response{Status: status, Headers: others}, here, cred, Answer{}, false)
			checkRead(t, api.Response{Status: status, Headers: readable(lines(methodsName + ": a b")...)}, here, cred, Answer{}, false)
		}
	}
	for status := -600; status <= 1000; status++ {
		read(status)
	}
	for _, status := range []int{2000, 20000, 1<<8 + 200, 1<<16 + 200, 1<<16 + 299, 1<<31 - 1, 1<<32 + 200, 1<<32 + 204, -1<<8 + 200, -1<<32 + 200, -1<<31 + 200, math.MaxInt, math.MaxInt - 200, math.MinInt, math.MinInt + 200, math.MinInt + 299} {
		read(status)
	}
}

// TestReadOfCheck has a response that may be read, and one for each reason why
// it may not.
func TestReadOfCheck(t *testing.T) {
	others := lines(methodsName+": PUT, *", headersName+": *, X", ageName+": 0")
	want := Answer{Methods: []string{"PUT", "*"}, Headers: []string{"*", "x"}}
	for _, one := range []struct {
		list             []api.Header
		from             string
		without, include bool
	}{
		{nil, here, false, false},
		{nil, "", false, false},
		{nil, "*", false, false},
		{lines(credName + ": true"), here, false, false},
		{lines("Origin: " + here), here, false, false},
		{lines(originName + ": *"), here, true, false},
		{lines(originName+": *", credName+": true"), here, true, false},
		{lines(originName+": *", credName+": true"), "*", true, true},
		{lines(originName + ": " + here), here, true, false},
		{lines(originName+": "+here, credName+": true"), here, true, true},
		{lines("Access-Control-Allow-Credentials: true", "Access-Control-Allow-Origin: "+here), here, true, true},
		{lines(originName+": "+here, credName+": True"), here, true, false},
		{lines(originName+": "+here, credName+": false"), here, true, false},
		{lines(originName+": "+here, credName+": "), here, true, false},
		{lines(originName+": "+here, credName+": true", credName+": true"), here, true, false},
		{lines(originName+": "+here+"0", credName+": true"), here, false, false},
		{lines(originName+": "+here, credName+": true"), here + "0", false, false},
		{lines(originName+": "+here, credName+": true"), "", false, false},
		{lines(originName+": HTTPS://A.example:8443", credName+": true"), here, false, false},
		{lines(originName+": "+here, originName+": "+here, credName+": true"), here, false, false},
		{lines(originName+": *", originName+": *", credName+": true"), here, false, false},
		{lines(originName+": a", originName+": a", credName+": true"), "a, a", true, true},
		{lines(originName+": null", credName+": true"), "null", true, true},
		{lines(originName+": ", credName+": true"), "", true, true},
		{lines(originName+": HTTP://A.Example", credName+": true"), "HTTP://A.Example", true, true},
		{lines(originName+": http://a.example", credName+": true"), "HTTP://A.Example", false, false},
		{lines(originName+": HTTP://A.EXAMPLE", credName+": true"), "HTTP://A.Example", false, false},
		{lines(originName+":  a\t", credName+": true"), " a\t", true, true},
		{lines(originName+": a", credName+": true"), " a\t", false, false},
		{lines(originName+": a", credName+": true"), "a ", false, false},
		{lines(originName+":  a", credName+": true"), "a", false, false},
		{lines(originName+": \xFF", credName+": true"), "\xFF", true, true},
		{lines(originName+": \xFF", credName+": true"), "\xFE", false, false},
	} {
		read := func(cred int, ok bool) {
			a, plain := Answer{}, Answer{}
			if ok {
				a, plain.Age = want, 5
			}
			checkRead(t, api.Response{Status: 200, Headers: slices.Concat(one.list, others)}, one.from, cred, a, ok)
			checkRead(t, api.Response{Status: 299, Headers: slices.Concat(others, one.list)}, one.from, cred, a, ok)
			checkRead(t, api.Response{Status: 204, Headers: one.list}, one.from, cred, plain, ok)
			checkRead(t, api.Response{Status: 199, Headers: one.list}, one.from, cred, Answer{}, false)
		}
		for _, cred := range otherCreds {
			read(cred, one.without)
		}
		read(api.Include, one.include)
	}
}

// lists holds the values of headers, and the parts that they have together.
var lists = []struct{ values, parts []string }{
	{nil, nil},
	{[]string{""}, nil},
	{[]string{","}, nil},
	{[]string{" "}, nil},
	{[]string{"\t"}, nil},
	{[]string{" ,\t, ,,"}, nil},
	{[]string{"", ""}, nil},
	{[]string{",", " ", "", "\t,"}, nil},
	{[]string{"PUT"}, []string{"PUT"}},
	{[]string{"put"}, []string{"put"}},
	{[]string{" pUT\t"}, []string{"pUT"}},
	{[]string{",PUT,"}, []string{"PUT"}},
	{[]string{"*"}, []string{"*"}},
	{[]string{"*,A"}, []string{"*", "A"}},
	{[]string{"A, *,b"}, []string{"A", "*", "b"}},
	{[]string{"PUT,Delete"}, []string{"PUT", "Delete"}},
	{[]string{"b, A ,\tC,,d"}, []string{"b", "A", "C", "d"}},
	{[]string{"C,b,A"}, []string{"C", "b", "A"}},
	{[]string{"A,a,A,b,a"}, []string{"A", "a", "A", "b", "a"}},
	{[]string{"A", "b"}, []string{"A", "b"}},
	{[]string{"b", "A"}, []string{"b", "A"}},
	{[]string{"A", "A"}, []string{"A", "A"}},
	{[]string{"A", ""}, []string{"A"}},
	{[]string{"", "A"}, []string{"A"}},
	{[]string{"A,b", "C,", ",D"}, []string{"A", "b", "C", "D"}},
	{[]string{"*", "X-Y"}, []string{"*", "X-Y"}},
	{[]string{"Authorization"}, []string{"Authorization"}},
	{[]string{"!#$%&'*+-.^_`|~09AZaz"}, []string{"!#$%&'*+-.^_`|~09AZaz"}},
	{[]string{"GET, HEAD, POST"}, []string{"GET", "HEAD", "POST"}},
	{[]string{"null"}, []string{"null"}},
	{[]string{"0"}, []string{"0"}},
}

// badLists holds the values of headers of which some part is no token.
var badLists = [][]string{
	{"a b"}, {"a\tb"}, {"a b,c,d"}, {"c,a b,d"}, {"c,d,a b"}, {"c,\ta  b ,d"},
	{"\xFF"}, {"\u00E9"}, {"\x80,c,d"}, {"c,\x80,d"}, {"c,d,\x80"}, {"c\xFF,d"}, {"c,d\u00E9,e"}, {"c,d,e\u212A"},
	{":"}, {"a:b"}, {"a/b"}, {"a;b"}, {"a=b"}, {"\"a\""}, {"(a)"}, {"[a]"}, {"{a}"}, {"a?"}, {"a@b"}, {"a\\b"}, {"<a>"},
	{"\x00"}, {"a\x00"}, {"a\n"}, {"\na"}, {"\r\n"}, {"a\vb"}, {"\v"}, {"\fa"}, {"\x7F"}, {"\u00A0"}, {"\u00A0a"}, {"a\u2003"}, {"\uFEFFa"},
	{"a b", "c"}, {"c", "a b"}, {"c", "a b", "d"}, {"c,", "\xFF"}, {"*,a b"}, {"*", "a:"}, {"a b,*"}, {"", "a b", ""}, {"GET HEAD"},
	{"c,c,c,c,c,c,c,c,c,c,c,c,c,c,c,c,c,c,c,c,c,c,c,c,c,c,c,c,c,c, a b"},
}

// lower returns the parts in lower case.
func lower(parts []string) []string {
	var out []string
	for _, part := range parts {
		out = append(out, strings.ToLower(part))
	}
	return out
}

func TestReadOfLists(t *testing.T) {
	for _, one := range lists {
		checkGood(t, each(methodsName, one.values...), Answer{Methods: one.parts, Age: 5}, true)
		checkGood(t, each(headersName, one.values...), Answer{Headers: lower(one.parts), Age: 5}, true)
		for _, two := range lists {
			want := Answer{Methods: one.parts, Headers: lower(two.parts), Age: 5}
			checkGood(t, slices.Concat(each(methodsName, one.values...), each(headersName, two.values...)), want, true)
			want.Age = 0
			checkGood(t, slices.Concat(each(ageName, "0"), each(headersName, two.values...), each(methodsName, one.values...)), want, true)
		}
	}
}

func TestReadOfBadLists(t *testing.T) {
	for _, bad := range badLists {
		checkGood(t, each(methodsName, bad...), Answer{}, false)
		checkGood(t, each(headersName, bad...), Answer{}, false)
		checkGood(t, slices.Concat(each(methodsName, bad...), each(ageName, "7"), each(headersName, bad...)), Answer{}, false)
		for _, one := range lists {
			checkGood(t, slices.Concat(each(methodsName, bad...), each(headersName, one.values...)), Answer{}, false)
			checkGood(t, slices.Concat(each(methodsName, one.values...), each(headersName, bad...), each(ageName, "7")), Answer{}, false)
		}
	}
}

// TestReadOfOtherLists has values that would be wrong for methods and headers
// in headers that are neither.
func TestReadOfOtherLists(t *testing.T) {
	want := Answer{Methods: []string{"A"}, Headers: []string{"b"}, Age: 9}
	good := lines(methodsName+": A", headersName+": B", ageName+": 9")
	for _, name := range []string{"", "allow", "methods", "headers", "access-control-allow", "access-control-expose-headers", "access-control-request-methods", "access-control-request-headers", "Vary", "x-" + methodsName, methodsName + "," + headersName} {
		for _, list := range inserted(api.Header{Name: name, Value: "a b"}, good) {
			checkGood(t, list, want, true)
		}
	}
}

func TestReadOfNames(t *testing.T) {
	for _, name := range append(cases(methodsName), "Access-Control-Allow-Methods") {
		for _, list := range inserted(api.Header{Name: name, Value: "Put, x"}, readable()) {
			checkRead(t, api.Response{Status: 200, Headers: list}, here, api.Include, Answer{Methods: []string{"Put", "x"}, Age: 5}, true)
		}
		checkGood(t, each(name, "a b"), Answer{}, false)
		checkGood(t, append(each(methodsName, "A"), each(name, "b")...), Answer{Methods: []string{"A", "b"}, Age: 5}, true)
		checkGood(t, append(each(name, "A"), each(methodsName, "b", "(")...), Answer{}, false)
	}
	for _, name := range append(cases(headersName), "Access-Control-Allow-Headers") {
		for _, list := range inserted(api.Header{Name: name, Value: "Put, x"}, readable()) {
			checkRead(t, api.Response{Status: 200, Headers: list}, here, api.Include, Answer{Headers: []string{"put", "x"}, Age: 5}, true)
		}
		checkGood(t, each(name, "a b"), Answer{}, false)
		checkGood(t, append(each(headersName, "A"), each(name, "b")...), Answer{Headers: []string{"a", "b"}, Age: 5}, true)
		checkGood(t, append(each(name, "A"), each(headersName, "b", "(")...), Answer{}, false)
	}
	for _, name := range append(cases(ageName), "Access-Control-Max-Age") {
		for _, list := range inserted(api.Header{Name: name, Value: "12"}, readable()) {
			checkRead(t, api.Response{Status: 200, Headers: list}, here, api.Include, Answer{Age: 12}, true)
		}
		checkGood(t, append(each(ageName, "1"), each(name, "2")...), Answer{Age: 5}, true)
	}
	for _, known := range []string{methodsName, headersName, ageName} {
		for _, name := range near(known) {
			checkGood(t, each(name, "7"), Answer{Age: 5}, true)
			checkGood(t, each(strings.ToUpper(name), "a b"), Answer{Age: 5}, true)
		}
	}
}

// TestReadOfEveryByte has lists with each byte alone and beside others.
func TestReadOfEveryByte(t *testing.T) {
	const token = "!#$%&'*+-.^_`|~0123456789abcdefghijklmnopqrstuvwxyzABCDEFGHIJKLMNOPQRSTUVWXYZ"
	for c := range 256 {
		s := text(c)
		for _, one := range []struct {
			value         string
			token, before []string
			within        bool // whether whitespace would be within a part
		}{
			{s, []string{s}, nil, false},
			{"x" + s, []string{"x" + s}, []string{"x"}, false},
			{s + "x", []string{s + "x"}, []string{"x"}, false},
			{"x," + s + ",y", []string{"x", s, "y"}, []string{"x", "y"}, false},
			{"x, y" + s, []string{"x", "y" + s}, []string{"x", "y"}, false},
			{"x" + s + "y", []string{"x" + s + "y"}, []string{"x", "y"}, true},
			{"A,x" + s + "y", []string{"A", "x" + s + "y"}, []string{"A", "x", "y"}, true},
			{"x" + s + "y,A", []string{"x" + s + "y", "A"}, []string{"x", "y", "A"}, true},
		} {
			parts, ok := one.token, true
			if s == "," || (s == " " || s == "\t") && !one.within {
				parts = one.before
			} else {
				ok = strings.Contains(token, s)
			}
			methods, headers := Answer{}, Answer{}
			if ok {
				methods, headers = Answer{Methods: parts, Age: 5}, Answer{Headers: lower(parts), Age: 5}
			}
			checkGood(t, each(methodsName, one.value), methods, ok)
			checkGood(t, each(headersName, one.value), headers, ok)
		}
	}
}

func TestReadOfLongLists(t *testing.T) {
	for _, length := range []int{63, 64, 65, 511, 512, 513, 1 << 16} {
		long := strings.Repeat("Xy", length)
		checkGood(t, each(methodsName, long, long), Answer{Methods: []string{long, long}, Age: 5}, true)
		checkGood(t, each(headersName, "a,"+long), Answer{Headers: []string{"a", strings.ToLower(long)}, Age: 5}, true)
		checkGood(t, each(headersName, long+" a"), Answer{}, false)
		checkGood(t, each(methodsName, long+"\xFF"), Answer{}, false)
	}
	for _, number := range []int{23, 24, 25, 26, 64, 65, 300} {
		many := slices.Repeat([]string{"A"}, number)
		checkGood(t, each(methodsName, many...), Answer{Methods: many, Age: 5}, true)
		checkGood(t, each(headersName, many...), Answer{Headers: lower(many), Age: 5}, true)
		checkGood(t, each(methodsName, append(many, "a b")...), Answer{}, false)
		checkGood(t, append(slices.Repeat(lines("Vary: a b"), number), each(ageName, "3")...), Answer{Age: 3}, true)
	}
}

func TestReadOfAge(t *testing.T) {
	for _, one := range []struct {
		values []string
		want   int
	}{
		{nil, 5}, {[]string{""}, 5}, {[]string{"0"}, 0}, {[]string{"1"}, 1}, {[]string{"4"}, 4}, {[]string{"5"}, 5}, {[]string{"6"}, 6},
		{[]string{"00"}, 0}, {[]string{"007"}, 7}, {[]string{"0000000000000000000000000086399"}, 86399}, {[]string{"0086400"}, 86400}, {[]string{"0086401"}, 86400},
		{[]string{strings.Repeat("0", 3000)}, 0}, {[]string{strings.Repeat("0", 3000) + "9"}, 9},
		{[]string{"600"}, 600}, {[]string{"3600"}, 3600}, {[]string{"86399"}, 86399}, {[]string{"86400"}, 86400}, {[]string{"86401"}, 86400}, {[]string{"86410"}, 86400}, {[]string{"99999"}, 86400}, {[]string{"864000"}, 86400},
		{[]string{"2147483647"}, 86400}, {[]string{"2147483648"}, 86400}, {[]string{"4294967296"}, 86400}, {[]string{"4294967297"}, 86400}, {[]string{"9223372036854775807"}, 86400}, {[]string{"9223372036854775808"}, 86400}, {[]string{"18446744073709551615"}, 86400}, {[]string{"18446744073709551616"}, 86400}, {[]string{"18446744073709551617"}, 86400}, {[]string{strings.Repeat("9", 3000)}, 86400},
		{[]string{"-1"}, 5}, {[]string{"-0"}, 5}, {[]string{"-86400"}, 5}, {[]string{"-99999999999999999999"}, 5}, {[]string{"+1"}, 5}, {[]string{"+0"}, 5}, {[]string{"+86401"}, 5}, {[]string{"-"}, 5}, {[]string{"+"}, 5},
		{[]string{" 1"}, 5}, {[]string{"1 "}, 5}, {[]string{"\t1"}, 5}, {[]string{"1\t"}, 5}, {[]string{"1 0"}, 5}, {[]string{" "}, 5}, {[]string{"1\n"}, 5}, {[]string{"1\u00A0"}, 5},
		{[]string{"a"}, 5}, {[]string{"1a"}, 5}, {[]string{"a1"}, 5}, {[]string{"1s"}, 5}, {[]string{"99999999999999999999a"}, 5}, {[]string{"1.0"}, 5}, {[]string{"1."}, 5}, {[]string{"1e3"}, 5}, {[]string{"0x10"}, 5}, {[]string{"1_000"}, 5}, {[]string{"1,000"}, 5}, {[]string{"1;"}, 5}, {[]string{"\"1\""}, 5}, {[]string{"max"}, 5}, {[]string{"*"}, 5}, {[]string{"1\x00"}, 5}, {[]string{"\xFF"}, 5}, {[]string{"\u0661"}, 5}, {[]string{"\uFF11"}, 5}, {[]string{"\u00B2"}, 5},
		{[]string{"1", "2"}, 5}, {[]string{"1", "1"}, 5}, {[]string{"7", ""}, 5}, {[]string{"", "7"}, 5}, {[]string{"", ""}, 5}, {[]string{"86401", "1"}, 5}, {[]string{"1", "x", "2"}, 5}, {[]string{"x", "1"}, 5},
	} {
		checkGood(t, each(ageName, one.values...), Answer{Age: one.want}, true)
		others := lines(methodsName+": PUT", headersName+": X, Y")
		checkGood(t, append(others, each(ageName, one.values...)...), Answer{Methods: []string{"PUT"}, Headers: []string{"x", "y"}, Age: one.want}, true)
		checkGood(t, append(each(ageName, one.values...), lines(headersName+": a b")...), Answer{}, false)
		// An age is no reason for a preflight to fail, nor one to succeed.
		checkRead(t, api.Response{Status: 300, Headers: readable(each(ageName, one.values...)...)}, here, api.Omit, Answer{}, false)
		checkRead(t, api.Response{Status: 200, Headers: each(ageName, one.values...)}, here, api.Omit, Answer{}, false)
	}
	for n := range 2000 {
		checkGood(t, each(ageName, fmt.Sprint(n)), Answer{Age: n}, true)
		checkGood(t, each(ageName, fmt.Sprint(85400+n)), Answer{Age: min(85400+n, 86400)}, true)
	}
	for c := range 256 {
		s := text(c)
		if c >= '0' && c <= '9' {
			checkGood(t, each(ageName, s), Answer{Age: c - '0'}, true)
			checkGood(t, each(ageName, "3"+s+"1"), Answer{Age: 301 + 10*(c-'0')}, true)
			continue
		}
		for _, value := range []string{s, s + "3", "3" + s, "3" + s + "1", s + s} {
			checkGood(t, each(ageName, value), Answer{Age: 5}, true)
		}
	}
}

// around returns lists that have s at each place among others, also alone.
func around(s string, others ...string) [][]string {
	out := [][]string{{s}, {s, s}}
	for i := range len(others) + 1 {
		out = append(out, slices.Insert(slices.Clone(others), i, s))
	}
	return out
}

// without returns lists that have no *.
func without() [][]string {
	return [][]string{nil, {}, {""}, {"x"}, {"x", "y", "z"}, {"**", " *", "* ", "*,", "*, x", "any", "all", "\u2217", "\xAA", "x*", "*x", "/*", "*/*"}}
}

func TestLetsSimpleMethods(t *testing.T) {
	for _, method := range simpleMethods {
		for _, methods := range append(without(), []string{"*"}, []string{method}, []string{strings.ToLower(method)}, []string{"PUT", "*"}) {
			checkCreds(t, Answer{Methods: methods}, method, nil, true, true)
			checkCreds(t, Answer{Methods: methods}, method, []string{"x"}, false, false)
		}
		for _, s := range cases(method) {
			// In another case, it is a method like the others.
			checkCreds(t, Answer{}, s, nil, s == method, s == method)
			checkCreds(t, Answer{Methods: simpleMethods}, s, nil, s == method, s == method)
			checkCreds(t, Answer{Methods: []string{"*"}}, s, nil, true, s == method)
			checkCreds(t, Answer{Methods: []string{s}}, s, nil, true, true)
		}
	}
}

func TestLetsOtherMethods(t *testing.T) {
	for _, method := range []string{"PUT", "DELETE", "OPTIONS", "PATCH", "put", "pUt", "get", "Head", "CONNECT", "TRACE", "", "a b", "GET ", "\xFF", "\u00E9", "authorization", strings.Repeat("M", 600)} {
		for _, methods := range without() {
			if slices.Contains(methods, method) {
				continue
			}
			checkCreds(t, Answer{Methods: methods}, method, nil, false, false)
			// What is said of headers says nothing of methods.
			checkCreds(t, Answer{Methods: methods, Headers: []string{method, "*"}}, method, nil, false, false)
		}
		for _, methods := range around(method, "A", "b", "C", "**") {
			checkCreds(t, Answer{Methods: methods}, method, nil, true, true)
			checkCreds(t, Answer{Methods: methods}, method, []string{}, true, true)
			checkCreds(t, Answer{Methods: methods, Headers: []string{"c", "h"}}, method, []string{"h"}, true, true)
			checkCreds(t, Answer{Methods: methods}, method+"x", nil, false, false)
			checkCreds(t, Answer{Methods: methods}, "x"+method, nil, false, false)
			checkCreds(t, Answer{Methods: append(methods, "*")}, method, nil, true, true)
			checkCreds(t, Answer{Methods: append([]string{"*"}, methods...)}, method, nil, true, true)
		}
		for _, methods := range around("*", "A", "b", "C", "**") {
			checkCreds(t, Answer{Methods: methods}, method, nil, true, false)
			checkCreds(t, Answer{Methods: methods}, method, []string{}, true, false)
			checkCreds(t, Answer{Methods: methods, Headers: []string{"c", "h"}}, method, []string{"h"}, true, false)
			checkCreds(t, Answer{Methods: methods, Headers: []string{"*"}}, method, []string{"h"}, true, false)
			checkCreds(t, Answer{Methods: methods}, method, []string{"h"}, false, false)
		}
	}
}

func TestLetsMethodsInOtherCases(t *testing.T) {
	for _, method := range []string{"PUT", "Patch", "x-y"} {
		for _, s := range cases(method) {
			checkCreds(t, Answer{Methods: []string{s}}, method, nil, s == method, s == method)
			checkCreds(t, Answer{Methods: []string{"A", s, "b"}}, method, nil, s == method, s == method)
			checkCreds(t, Answer{Methods: []string{method}}, s, nil, s == method, s == method)
			checkCreds(t, Answer{Methods: []string{s, "*"}}, method, nil, true, s == method)
		}
	}
}

// TestLetsStarAsMethod has a method that is * itself, and so is among Methods
// that have it, whatever the credentials are.
func TestLetsStarAsMethod(t *testing.T) {
	for _, methods := range without() {
		checkCreds(t, Answer{Methods: methods}, "*", nil, false, false)
		checkCreds(t, Answer{Methods: methods, Headers: []string{"*"}}, "*", nil, false, false)
	}
	for _, methods := range around("*", "A", "b", "C") {
		checkCreds(t, Answer{Methods: methods}, "*", nil, true, true)
		checkCreds(t, Answer{Methods: methods, Headers: []string{"*"}}, "*", []string{"x"}, true, false)
	}
}

func TestLetsNoNames(t *testing.T) {
	for _, names := range [][]string{nil, {}, make([]string, 0, 3)} {
		for _, headers := range append(without(), []string{"*"}) {
			checkCreds(t, Answer{Headers: headers}, "GET", names, true, true)
			checkCreds(t, Answer{Headers: headers}, "PUT", names, false, false)
			checkCreds(t, Answer{Methods: []string{"PUT"}, Headers: headers}, "PUT", names, true, true)
			checkCreds(t, Answer{Methods: []string{"*"}, Headers: headers}, "PUT", names, true, false)
		}
	}
}

func TestLetsOneName(t *testing.T) {
	for _, name := range []string{"x-a", "X-A", "content-type", "accept", "cookie", "authorizatio", "authorizations", "proxy-authorization", "GET", "", " ", "a b", "\xFF", "\u00E9", strings.Repeat("n", 600)} {
		for _, headers := range without() {
			if slices.Contains(headers, name) {
				continue
			}
			checkCreds(t, Answer{Headers: headers}, "GET", []string{name}, false, false)
			checkCreds(t, Answer{Methods: []string{"PUT", "*", name}, Headers: headers}, "PUT", []string{name}, false, false)
		}
		for _, headers := range around(name, "a", "B", "c", "**") {
			checkCreds(t, Answer{Headers: headers}, "GET", []string{name}, true, true)
			checkCreds(t, Answer{Headers: headers}, "GET", []string{name, name}, true, true)
			checkCreds(t, Answer{Headers: headers}, "PUT", []string{name}, false, false)
			checkCreds(t, Answer{Methods: []string{"PUT"}, Headers: headers}, "PUT", []string{name}, true, true)
			checkCreds(t, Answer{Methods: []string{"*"}, Headers: headers}, "PUT", []string{name}, true, false)
			checkCreds(t, Answer{Headers: headers}, "GET", []string{name + "x"}, false, false)
			checkCreds(t, Answer{Headers: headers}, "GET", []string{"x" + name}, false, false)
			checkCreds(t, Answer{Headers: append(headers, "*")}, "GET", []string{name}, true, true)
			checkCreds(t, Answer{Headers: append([]string{"*"}, headers...)}, "GET", []string{name}, true, true)
		}
		for _, headers := range around("*", "a", "B", "c", "**") {
			checkCreds(t, Answer{Headers: headers}, "GET", []string{name}, true, false)
			checkCreds(t, Answer{Headers: headers}, "PUT", []string{name}, false, false)
			checkCreds(t, Answer{Methods: []string{"PUT"}, Headers: headers}, "PUT", []string{name}, true, false)
		}
	}
	for _, s := range cases("x-name") {
		checkCreds(t, Answer{Headers: []string{s}}, "GET", []string{"x-name"}, s == "x-name", s == "x-name")
		checkCreds(t, Answer{Headers: []string{"x-name"}}, "GET", []string{s}, s == "x-name", s == "x-name")
		checkCreds(t, Answer{Headers: []string{"a", s, "*"}}, "GET", []string{"x-name"}, true, s == "x-name")
	}
}

// TestLetsSeveralNames has one that is not among the Headers at each place.
func TestLetsSeveralNames(t *testing.T) {
	headers := []string{"d", "b", "a", "c"}
	for _, names := range [][]string{{"a"}, {"a", "b"}, {"b", "a"}, {"a", "b", "c", "d"}, {"d", "c", "b", "a"}, {"a", "a", "b", "b", "a"}} {
		checkCreds(t, Answer{Headers: headers}, "GET", names, true, true)
		checkCreds(t, Answer{Headers: append([]string{"*"}, headers...)}, "POST", names, true, true)
		checkCreds(t, Answer{Headers: headers}, "PUT", names, false, false)
		checkCreds(t, Answer{Headers: []string{"*"}}, "GET", names, true, false)
		checkCreds(t, Answer{Headers: []string{"*"}, Methods: []string{"*"}}, "PUT", names, true, false)
		checkCreds(t, Answer{}, "GET", names, false, false)
		for _, missing := range []string{"e", "A", "", "ab", "a,b", "**"} {
			for i := range len(names) + 1 {
				more := slices.Insert(slices.Clone(names), i, missing)
				checkCreds(t, Answer{Headers: headers}, "GET", more, false, false)
				checkCreds(t, Answer{Headers: append([]string{"*"}, headers...)}, "GET", more, true, false)
				checkCreds(t, Answer{Headers: append(headers[:4:4], missing)}, "GET", more, true, true)
				checkCreds(t, Answer{Headers: append(headers[:4:4], missing)}, "PUT", more, false, false)
			}
		}
		for i := range len(names) + 1 {
			more := slices.Insert(slices.Clone(names), i, "authorization")
			checkCreds(t, Answer{Headers: append([]string{"*"}, headers...)}, "GET", more, false, false)
			checkCreds(t, Answer{Headers: append(headers[:4:4], "authorization")}, "GET", more, true, true)
			checkCreds(t, Answer{Headers: []string{"*", "authorization"}}, "GET", more, true, false)
			more = slices.Insert(slices.Clone(names), i, "*")
			checkCreds(t, Answer{Headers: headers}, "GET", more, false, false)
			checkCreds(t, Answer{Headers: append(headers[:4:4], "*")}, "GET", more, true, true)
			checkCreds(t, Answer{Headers: []string{"*"}}, "GET", more, true, false)
		}
	}
}

func TestLetsAuthorization(t *testing.T) {
	for _, s := range cases("authorization") {
		exact := s == "authorization"
		checkCreds(t, Answer{}, "GET", []string{s}, false, false)
		checkCreds(t, Answer{Headers: []string{"authorization"}}, "GET", []string{s}, exact, exact)
		checkCreds(t, Answer{Headers: []string{s}}, "GET", []string{"authorization"}, exact, exact)
		checkCreds(t, Answer{Headers: []string{s}}, "GET", []string{s}, true, true)
		checkCreds(t, Answer{Headers: []string{"*", s}}, "GET", []string{"authorization"}, exact, exact)
		checkCreds(t, Answer{Headers: []string{"*", s}}, "GET", []string{s}, true, true)
		// Names are compared as they are: in another case, it is one of those
		// that * stands for.
		checkCreds(t, Answer{Headers: []string{"*"}}, "GET", []string{s}, !exact, false)
		checkCreds(t, Answer{Headers: []string{"*", "authorization"}}, "GET", []string{s}, true, exact)
	}
	for _, headers := range around("*", "a", "auth", "proxy-authorization", "authorizations", "Authorization") {
		checkCreds(t, Answer{Headers: headers}, "GET", []string{"authorization"}, false, false)
		checkCreds(t, Answer{Methods: []string{"*", "authorization"}, Headers: headers}, "PUT", []string{"authorization"}, false, false)
		for _, more := range around("authorization", headers...) {
			checkCreds(t, Answer{Headers: more}, "GET", []string{"authorization"}, true, true)
			checkCreds(t, Answer{Headers: more, Methods: []string{"PUT"}}, "PUT", []string{"authorization", "authorization"}, true, true)
		}
	}
	for _, s := range append(near("authorization"), " authorization", "authorization\t", "\tauthorization ", "authorization,", "proxy-authorization", "auth\u2010orization", "authori\u017Fation", "\uFF41uthorization") {
		checkCreds(t, Answer{Headers: []string{"*"}}, "GET", []string{s}, true, false)
		checkCreds(t, Answer{Headers: []string{"*", s}}, "GET", []string{"authorization"}, false, false)
		checkCreds(t, Answer{Headers: []string{"authorization"}}, "GET", []string{s}, false, false)
	}
	// As a method, it is like all others.
	checkCreds(t, Answer{Methods: []string{"*"}}, "authorization", nil, true, false)
}

// TestLetsStarAsName has a name that is * itself.
func TestLetsStarAsName(t *testing.T) {
	for _, headers := range without() {
		checkCreds(t, Answer{Headers: headers}, "GET", []string{"*"}, false, false)
		checkCreds(t, Answer{Headers: headers, Methods: []string{"*"}}, "*", []string{"*"}, false, false)
	}
	for _, headers := range around("*", "a", "b") {
		checkCreds(t, Answer{Headers: headers}, "GET", []string{"*"}, true, true)
		checkCreds(t, Answer{Headers: headers}, "GET", []string{"*", "*"}, true, true)
		checkCreds(t, Answer{Headers: headers, Methods: []string{"*"}}, "*", []string{"*"}, true, true)
		checkCreds(t, Answer{Headers: headers, Methods: []string{"*"}}, "PUT", []string{"*"}, true, false)
		checkCreds(t, Answer{Headers: headers}, "PUT", []string{"*"}, false, false)
	}
}

func TestLetsOfNothing(t *testing.T) {
	for _, a := range []Answer{{}, {Methods: []string{}, Headers: []string{}}, {Age: 5}, {Age: -1}, {Age: math.MaxInt}} {
		checkCreds(t, a, "GET", nil, true, true)
		checkCreds(t, a, "HEAD", nil, true, true)
		checkCreds(t, a, "POST", []string{}, true, true)
		for _, method := range otherMethods {
			checkCreds(t, a, method, nil, false, false)
			checkCreds(t, a, method, []string{"x"}, false, false)
		}
		for _, names := range [][]string{{""}, {"x"}, {"*"}, {"authorization"}, {"x", "y"}, {"accept"}} {
			checkCreds(t, a, "GET", names, false, false)
		}
	}
}

// TestLetsOfAge has answers that allow something, for no time at all too.
func TestLetsOfAge(t *testing.T) {
	for _, age := range []int{0, 5, 86400, -1, math.MaxInt, math.MinInt} {
		a := Answer{Methods: []string{"PUT"}, Headers: []string{"x"}, Age: age}
		checkCreds(t, a, "PUT", []string{"x"}, true, true)
		checkCreds(t, a, "DELETE", []string{"x"}, false, false)
		checkCreds(t, a, "PUT", []string{"y"}, false, false)
	}
}

// TestLetsOfMany has lists above all limits, which count nothing here.
func TestLetsOfMany(t *testing.T) {
	for _, number := range []int{23, 24, 25, 26, 64, 65, 128, 129} {
		var many []string
		for i := range number {
			many = append(many, fmt.Sprintf("x-%d", i))
		}
		last := many[number-1]
		a := Answer{Methods: many, Headers: many}
		checkCreds(t, a, last, many, true, true)
		checkCreds(t, a, "PUT", many, false, false)
		checkCreds(t, a, "GET", append(many, "y"), false, false)
		checkCreds(t, a, last, append([]string{"authorization"}, many...), false, false)
		checkCreds(t, Answer{Headers: many[1:]}, "GET", many, false, false)
		checkCreds(t, Answer{Headers: many[:number-1]}, "GET", many, false, false)
		checkCreds(t, Answer{Methods: many[:number-1]}, last, nil, false, false)
		checkCreds(t, Answer{Methods: []string{"*"}, Headers: []string{"*"}}, "PUT", many, true, false)
		checkCreds(t, Answer{Methods: append(many, "*"), Headers: append(many, "*")}, "PUT", []string{"y"}, true, false)
	}
}

// TestExample goes from what is asked to what is allowed.
func TestExample(t *testing.T) {
	for value, want := range map[string][2]bool{"PUT": {true, true}, "*": {true, false}, "DELETE, PUT": {true, true}, "DELETE, *": {true, false}, "": {false, false}, "put": {false, false}, "DELETE": {false, false}, "GET, HEAD, POST": {false, false}} {
		for cred, ok := range map[int]bool{api.Omit: want[0], api.OwnOnly: want[0], api.Include: want[1]} {
			a, read := Read(api.Response{Status: 200, Headers: readable(each(methodsName, value)...)}, here, cred)
			if !read || a.Lets("PUT", nil, cred) != ok || !a.Lets("GET", nil, cred) {
				t.Errorf("with %d, a response with %q makes %s %v", cred, value, show(a), read)
			}
		}
	}
	a, ok := Read(api.Response{Status: 204, Headers: lines(originName+": *", headersName+": X-A, *, AUTHORIZATION")}, here, api.Omit)
	if !ok || !a.Lets("GET", []string{"authorization", "x-a", "x-b"}, api.Omit) || a.Lets("GET", []string{"x-b"}, api.Include) {
		t.Error(show(a), ok)
	}
}

// The forms of the model. Within a list, a token is followed by the end or a
// comma.
var (
	listForm = regexp.MustCompile("\\A[\t ,]*([!#$%&'*+.^_`|~0-9A-Za-z-]+[\t ]*(\\z|,[\t ,]*))*\\z")
	partForm = regexp.MustCompile("[^\t ,]+")
	ageForm  = regexp.MustCompile(`\A[0-9]+\z`)
)

// plainValue goes from the last header to the first.
func plainValue(list []api.Header, name string) string {
	var out []string
	for i := len(list) - 1; i >= 0; i-- {
		if strings.ToLower(list[i].Name) == name {
			out = append([]string{list[i].Value}, out...)
		}
	}
	return strings.Join(out, ", ")
}

func plainRead(x api.Response, from string, cred int) (Answer, bool) {
	methods, headers, age := plainValue(x.Headers, methodsName), plainValue(x.Headers, headersName), plainValue(x.Headers, ageName)
	if x.Status/100 != 2 || !cors.Check(x.Headers, from, cred) || !listForm.MatchString(methods) || !listForm.MatchString(headers) {
		return Answer{}, false
	}
	a := Answer{Methods: partForm.FindAllString(methods, -1), Headers: partForm.FindAllString(strings.ToLower(headers), -1), Age: 5}
	if ageForm.MatchString(age) {
		n, _ := new(big.Int).SetString(age, 10)
		a.Age = 86400
		if n.Cmp(big.NewInt(86400)) < 0 {
			a.Age = int(n.Int64())
		}
	}
	return a, true
}

// plainLets goes through what a allows and strikes it from what is wanted.
func plainLets(a Answer, method string, names []string, cred int) bool {
	methods := map[string]int{method: 1}
	headers := map[string]int{}
	for _, name := range names {
		headers[name] = 1
	}
	for _, simple := range []string{"GET", "HEAD", "POST"} {
		delete(methods, simple)
	}
	strike := func(wanted map[string]int, allowed []string, apart string) {
		for _, one := range allowed {
			delete(wanted, one)
			for name := range wanted {
				if one == "*" && cred != 3 && name != apart {
					delete(wanted, name)
				}
			}
		}
	}
	strike(headers, a.Headers, "authorization")
	// No method is apart from the others.
	strike(methods, a.Methods, "no method")
	return len(methods)+len(headers) == 0
}

func pick[T any](r *rand.Rand, list []T) T {
	return list[r.Intn(len(list))]
}

// choice returns some of the texts.
func choice(r *rand.Rand, texts []string, most int) []string {
	var out []string
	for range r.Intn(most + 1) {
		out = append(out, pick(r, texts))
	}
	return out
}

func randomResponse(r *rand.Rand) api.Response {
	parts := []string{"PUT", "x", "X-A", "*", "", "authorization", "A", ",", "a b", "\xFF", "\t"}
	if r.Intn(4) > 0 {
		parts = parts[:8]
	}
	list := readable()
	if r.Intn(8) == 0 {
		list = each(originName, pick(r, []string{"*", here, "null"}))
	}
	for _, name := range []string{methodsName, "Access-Control-Allow-Methods", headersName, "ACCESS-Control-Allow-Headers"} {
		if r.Intn(2) == 0 {
			list = append(list, api.Header{Name: name, Value: strings.Join(choice(r, parts, 4), pick(r, []string{",", ", ", "\t, "}))})
		}
	}
	if r.Intn(2) == 0 {
		list = append(list, api.Header{Name: pick(r, []string{ageName, "Access-Control-Max-Age"}), Value: strings.Join(choice(r, []string{"0", "1", "8", "64", "86400", "7", "9"}, 4), pick(r, []string{"", "", "", " ", "-"}))})
	}
	r.Shuffle(len(list), func(i, j int) { list[i], list[j] = list[j], list[i] })
	return api.Response{Status: pick(r, []int{200, 200, 201, 204, 299, 199 + r.Intn(102)}), Headers: list}
}

func TestRandomRead(t *testing.T) {
	r := rand.New(rand.NewSource(14))
	told := map[[2]bool]int{}
	for range 30000 {
		x, cred := randomResponse(r), r.Intn(5)
		want, ok := plainRead(x, here, cred)
		checkRead(t, x, here, cred, want, ok)
		method, names := pick(r, []string{"PUT", "x", "GET", "put"}), choice(r, []string{"x", "x-a", "authorization"}, 2)
		lets := plainLets(want, method, names, cred)
		checkLets(t, want, method, names, cred, lets)
		told[[2]bool{ok, lets}]++
	}
	if told[[2]bool{true, true}] < 2000 || told[[2]bool{true, false}] < 2000 || told[[2]bool{false, true}]+told[[2]bool{false, false}] < 2000 {
		t.Errorf("of the results %v, one is hardly tested", told)
	}
}

func TestRandomLets(t *testing.T) {
	r := rand.New(rand.NewSource(15))
	methods := []string{"PUT", "GET", "*", "put", "get", "", "X", "\xFF"}
	headers := []string{"a", "b", "A", "*", "authorization", "Authorization", "", "\xFF"}
	told := map[bool]int{}
	for range 60000 {
		a := Answer{Methods: choice(r, methods, 4), Headers: choice(r, headers, 5), Age: r.Intn(3)}
		method, names, cred := pick(r, methods), choice(r, headers, 3), r.Intn(5)
		want := plainLets(a, method, names, cred)
		checkLets(t, a, method, names, cred, want)
		told[want]++
	}
	if told[true] < 10000 || told[false] < 10000 {
		t.Errorf("of the results %v, one is hardly tested", told)
	}
}

// TestRandomAsk takes headers whose names are known to count or not.
func TestRandomAsk(t *testing.T) {
	r := rand.New(rand.NewSource(16))
	for range 20000 {
		var list []api.Header
		var names []string
		for range r.Intn(8) {
			if r.Intn(3) == 0 {
				list = append(list, pick(r, simple()))
				continue
			}
			h := pick(r, unsafe())
			list = append(list, h)
			name := h.Name
			// The library's function would change bytes that are no UTF-8.
			if name != "\xFF" {
				name = strings.ToLower(name)
			}
			names = append(names, name)
		}
		slices.Sort(names)
		names = slices.Compact(names)
		method, from := pick(r, otherMethods), pick(r, []string{here, "", "null", "\xFF"})
		checkAsk(t, from, method, list, asked(from, method, names...))
		checkNeeds(t, method, list, true)
		checkNeeds(t, "GET", list, len(names) > 0)
	}
}

func TestNothingIsKept(t *testing.T) {
	for range 3 {
		checkNeeds(t, "GET", lines("X: 1"), true)
		checkNeeds(t, "GET", nil, false)
		checkAsk(t, here, "PUT", lines("X: 1"), asked(here, "PUT", "x"))
		checkAsk(t, "", "", nil, asked("", ""))
		checkGood(t, lines(methodsName+": PUT", headersName+": X", ageName+": 7"), Answer{Methods: []string{"PUT"}, Headers: []string{"x"}, Age: 7}, true)
		checkGood(t, nil, Answer{Age: 5}, true)
		checkGood(t, lines(headersName+": a b"), Answer{}, false)
		checkLets(t, Answer{Methods: []string{"*"}, Headers: []string{"*"}}, "PUT", []string{"x"}, api.Omit, true)
		checkLets(t, Answer{}, "PUT", []string{"x"}, api.Omit, false)
	}
}

// FuzzPreflight takes an answer from the values of its headers.
func FuzzPreflight(f *testing.F) {
	f.Add("PUT", "X-A,b", "600", "PUT", "x-a,b", 200, 1)
	f.Add("*", "*, authorization", "", "*", "authorization", 299, 3)
	f.Add("a b", "\xFF", "-1", "", "", 199, 0)
	f.Add("", " ,\t", "99999999999999999999", "get", ",", 204, 2)
	f.Fuzz(func(t *testing.T, methods, headers, age, method, names string, status, cred int) {
		list := append(readable(), api.Header{Name: methodsName, Value: methods}, api.Header{Name: headersName, Value: headers}, api.Header{Name: ageName, Value: age})
		for _, x := range []api.Response{{Status: status, Headers: list}, {Status: 200, Headers: list}, {Status: 200, Headers: list[:4]}} {
			want, ok := plainRead(x, here, cred)
			checkRead(t, x, here, cred, want, ok)
			for _, cred := range []int{cred, api.Omit, api.Include} {
				checkLets(t, want, method, strings.Split(names, ","), cred, plainLets(want, method, strings.Split(names, ","), cred))
				checkLets(t, want, method, nil, cred, plainLets(want, method, nil, cred))
			}
		}
		checkNeeds(t, method, nil, method != "GET" && method != "HEAD" && method != "POST")
		checkAsk(t, names, method, nil, asked(names, method))
		checkAsk(t, names, method, lines("X: 1"), asked(names, method, "x"))
	})
}
