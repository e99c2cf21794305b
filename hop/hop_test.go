package hop

import (
	"fmt"
	"math"
	"math/rand"
	"slices"
	"strings"
	"testing"

	"pursuivant/api"
	"pursuivant/join"
	"pursuivant/origin"
	"pursuivant/url"
)

const (
	here  = "https://a.example:8443"
	there = "http://b.example"
)

// redirects holds all statuses that lead on.
var redirects = []int{301, 302, 303, 307, 308}

// lines returns the headers that are written as name: value.
func lines(texts ...string) []api.Header {
	var out []api.Header
	for _, text := range texts {
		name, value, _ := strings.Cut(text, ": ")
		out = append(out, api.Header{Name: name, Value: value})
	}
	return out
}

// named returns a header of each name.
func named(names ...string) []api.Header {
	var out []api.Header
	for i, name := range names {
		out = append(out, api.Header{Name: name, Value: fmt.Sprint("value ", i)})
	}
	return out
}

// answer returns a response that leads to the references.
func answer(status int, references ...string) api.Response {
	x := api.Response{Status: status, Body: "body"}
	for _, s := range references {
		x.Headers = append(x.Headers, api.Header{Name: "Location", Value: s})
	}
	return x
}

// asked returns a fetch that here has begun, of a method and a URL.
func asked(method, url string) api.Fetch {
	return api.Fetch{
		Request: api.Request{
			Method: method, URL: url, Mode: api.NoCors, Cred: api.OwnOnly, Redirect: api.Follow, Dest: api.DestImage, Nonce: "nonce",
			Headers: lines("Accept: */*", "X-A: 1"), Body: "b",
		},
		From: here, Hops: 3, Taint: api.EndBasic,
	}
}

// with returns a copy of f that was changed.
func with(f api.Fetch, change func(f *api.Fetch)) api.Fetch {
	f.Request.Headers = slices.Clone(f.Request.Headers)
	change(&f)
	return f
}

// moved returns f with what changes in each fetch that goes on.
func moved(f api.Fetch, url string) api.Fetch {
	return with(f, func(f *api.Fetch) {
		f.Hops++
		f.Request.URL = url
	})
}

// behind holds what lies behind the length of a list of headers, where it must
// change nothing.
func behind() []api.Header {
	return lines("X-Behind: 1", "Location: http://behind/", "Authorization: x", "Content-Type: x", "Content-Encoding: x")
}

// low returns s with the letters of ASCII in lower case, and no other letters.
func low(s string) string {
	out := []byte(s)
	for i, c := range out {
		if 'A' <= c && c <= 'Z' {
			out[i] = c - 'A' + 'a'
		}
	}
	return string(out)
}

// cases returns a text of ASCII in lower, upper and mixed case, and with a
// single letter in the other case at each place.
func cases(s string) []string {
	down, up := strings.ToLower(s), strings.ToUpper(s)
	out := []string{down, up}
	mixed := ""
	for i := range len(s) {
		mixed += []string{down, up}[i%2][i : i+1]
		out = append(out, down[:i]+up[i:i+1]+down[i+1:], up[:i]+down[i:i+1]+up[i+1:])
	}
	return append(out, mixed)
}

// near returns names that differ from one: by a byte that is removed, added or
// changed, or by more.
func near(name string) []string {
	var out []string
	for i := range len(name) + 1 {
		for _, c := range []string{"a", "s", "-", " ", ":", "\x00", "\xFF"} {
			out = append(out, name[:i]+c+name[i:])
			if i < len(name) && name[i:i+1] != c {
				out = append(out, name[:i]+c+name[i+1:])
			}
		}
		if i < len(name) {
			out = append(out, name[:i]+name[i+1:])
		}
	}
	out = append(out, "", name+name, name+",")
	for _, c := range []string{"-_", "i\u0130", "t\uFF54", "o0"} {
		if other := strings.ReplaceAll(name, c[:1], c[1:]); other != name {
			out = append(out, other)
		}
	}
	return out
}

// show writes out a value, as far as a line has room for it.
func show(v any) string {
	return fmt.Sprintf("%.400s", fmt.Sprintf("%+q", v))
}

// fill overwrites a list and what lies behind its length.
func fill(list []api.Header) {
	list = list[:cap(list)]
	for i := range list {
		list[i] = api.Header{Name: "changed", Value: "changed"}
	}
}

// checkKept checks that a list and what lies behind it are as before. It must
// follow each call, since a second one may undo a change.
func checkKept(t *testing.T, list, before []api.Header) {
	t.Helper()
	if !slices.Equal(list, before) {
		t.Errorf("of the list %s and what lies behind it, %s is left", show(before), show(list))
	}
}

// same compares all fields, each with its own.
func same(a, b api.Fetch) bool {
	r, s := a.Request, b.Request
	return r.Method == s.Method && r.URL == s.URL && r.Mode == s.Mode && r.Cred == s.Cred && r.Redirect == s.Redirect &&
		r.Dest == s.Dest && r.Nonce == s.Nonce && slices.Equal(r.Headers, s.Headers) && r.Body == s.Body &&
		a.From == b.From && a.Hops == b.Hops && a.Taint == b.Taint && a.Lost == b.Lost
}

// checkLeads calls Leads with x, and twice with headers that have others behind
// their length.
func checkLeads(t *testing.T, x api.Response, want string, ok bool) {
	t.Helper()
	all := slices.Concat(x.Headers, behind())
	before := slices.Clone(all)
	full := x
	full.Headers = all[:len(x.Headers)]
	for _, one := range []api.Response{x, full, full} {
		if got, told := Leads(one); got != want || told != ok {
			t.Errorf("Leads(%d %s) = %.100q, %v, want %.100q, %v", x.Status, show(x.Headers), got, told, want, ok)
		}
		checkKept(t, one.Headers, before[:len(x.Headers)])
		checkKept(t, all, before)
	}
}

// checkResult calls Next like checkLeads, and checks that its results share no
// memory with each other or with the arguments.
func checkResult(t *testing.T, f api.Fetch, x api.Response, want api.Fetch, end int) {
	t.Helper()
	mine, others := slices.Concat(f.Request.Headers, behind()), slices.Concat(x.Headers, behind())
	plain, kept, told := slices.Clone(f.Request.Headers), slices.Clone(mine), slices.Clone(others)
	fullFetch, fullResponse := f, x
	fullFetch.Request.Headers, fullResponse.Headers = mine[:len(f.Request.Headers)], others[:len(x.Headers)]
	var results []api.Fetch
	for i := range 4 {
		g, y := f, x
		if i >= 2 {
			g, y = fullFetch, fullResponse
		}
		got, e := Next(g, y)
		if !same(got, want) || e != end {
			t.Fatalf("Next(%s, %d %s) = %s, %d, want %s, %d", show(f), x.Status, show(x.Headers), show(got), e, show(want), end)
		}
		checkKept(t, f.Request.Headers, plain)
		checkKept(t, x.Headers, told[:len(x.Headers)])
		checkKept(t, mine, kept)
		checkKept(t, others, told)
		results = append(results, got)
	}
	fill(results[0].Request.Headers)
	fill(results[2].Request.Headers)
	checkKept(t, f.Request.Headers, plain)
	checkKept(t, x.Headers, told[:len(x.Headers)])
	checkKept(t, mine, kept)
	checkKept(t, others, told)
	fill(mine)
	fill(others)
	if !same(results[1], want) || !same(results[3], want) {
		t.Fatalf("a change of the arguments or of another result changed %s", show(want))
	}
}

// checkNext checks a fetch that goes on.
func checkNext(t *testing.T, f api.Fetch, x api.Response, want api.Fetch) {
	t.Helper()
	checkResult(t, f, x, want, 0)
}

// checkEnd checks a fetch that ends, with each status.
func checkEnd(t *testing.T, f api.Fetch, reference string, end int) {
	t.Helper()
	for _, status := range redirects {
		checkResult(t, f, answer(status, reference), api.Fetch{}, end)
	}
}

// checkGoes checks a fetch whose URL alone changes, with each status. Its method
// is one that stays.
func checkGoes(t *testing.T, f api.Fetch, reference, url string) {
	t.Helper()
	for _, status := range redirects {
		checkNext(t, f, answer(status, reference), moved(f, url))
	}
}

func TestNumbers(t *testing.T) {
	if api.MaxHops != 20 || api.EndURL != 5 || api.EndMany != 13 || api.EndUser != 14 || api.EndBasic != 1 || api.EndCors != 2 || api.EndOpaque != 3 {
		t.Error("a limit or an end has another number")
	}
	if api.SameOrigin != 1 || api.NoCors != 2 || api.Cors != 3 || api.MaxURL != 1024 || api.MaxUser != 128 {
		t.Error("a mode or a limit has another number")
	}
}

func TestLeadsByStatus(t *testing.T) {
	check := func(status int, want bool) {
		t.Helper()
		checkLeads(t, api.Response{Status: status}, "", false)
		checkLeads(t, api.Response{Status: status, Headers: lines("X-A: 1", "Content-Location: y")}, "", false)
		for _, value := range []string{"x", ""} {
			x := answer(status, value)
			if want {
				checkLeads(t, x, value, true)
			} else {
				checkLeads(t, x, "", false)
			}
		}
	}
	for status := 290; status <= 320; status++ {
		check(status, slices.Contains(redirects, status))
	}
	for status := -1024; status <= 1024; status++ {
		check(status, slices.Contains(redirects, status))
	}
	for _, status := range redirects {
		for _, bit := range []int{8, 9, 16, 31, 32, 33, 62} {
			check(status+1<<bit, false)
			check(status-1<<bit, false)
			check(-status+1<<bit, false)
		}
		for _, other := range []int{-status, ^status, status * 10, status << 1, status << 8, math.MaxInt - status, math.MinInt + status} {
			check(other, false)
		}
	}
	for _, status := range []int{0, 1, 3, math.MaxInt, math.MinInt, 1<<31 - 1, -1 << 31, 0x301, 0x308} {
		check(status, false)
	}
}

// checkLocation checks headers with each status, and with one that does not
// lead on.
func checkLocation(t *testing.T, list []api.Header, want string, ok bool) {
	t.Helper()
	for _, status := range redirects {
		checkLeads(t, api.Response{Status: status, Headers: list}, want, ok)
		checkLeads(t, api.Response{Status: status, Headers: list, Body: "location: body"}, want, ok)
	}
	for _, status := range []int{200, 300, 304, 305, 306, 309} {
		checkLeads(t, api.Response{Status: status, Headers: list}, "", false)
	}
}

func TestLeadsByName(t *testing.T) {
	for _, name := range cases("location") {
		checkLocation(t, []api.Header{{Name: name, Value: "x"}}, "x", true)
		checkLocation(t, []api.Header{{Name: name}}, "", true)
	}
	others := named(append(near("location"), "content-location", "x", "\xFF", "url", "refresh", "Locat\u0130on", "location\u017F")...)
	for _, h := range others {
		checkLocation(t, []api.Header{h}, "", false)
		checkLocation(t, []api.Header{h, {Name: "LocatioN", Value: "y"}, h}, "y", true)
	}
	checkLocation(t, others, "", false)
	// A value is not a name.
	checkLocation(t, []api.Header{{Name: "x", Value: "location"}, {Value: "location: x"}}, "", false)
	for _, list := range [][]api.Header{nil, {}, make([]api.Header, 0, 5), make([]api.Header, 3)} {
		checkLocation(t, list, "", false)
	}
}

func TestLeadsByValue(t *testing.T) {
	for _, value := range []string{
		"", " ", ",", "x", "X", "/", "//b", "http://B/%41?#", "a b", "\x00", "\xFF\xFE", "\t x \t", "\r\n", "\u00E9", "301", "x, y", "location",
		strings.Repeat("x", 512), strings.Repeat("x", 513), strings.Repeat("/..", 9999),
	} {
		checkLocation(t, []api.Header{{Name: "Location", Value: value}}, value, true)
	}
}

func TestLeadsBySeveral(t *testing.T) {
	for _, c := range []struct {
		list []api.Header
		want string
	}{
		{lines("Location: a", "Location: b"), "a, b"},
		{lines("Location: b", "Location: a"), "b, a"},
		{lines("location: a", "LOCATION: b", "lOCATION: a"), "a, b, a"},
		{lines("Location: ", "Location: "), ", "},
		{lines("Location: ", "Location: x"), ", x"},
		{lines("Location: x", "X-A: y", "Location: ", "locatio: z", "location: /,"), "x, , /,"},
		{slices.Repeat(lines("Location: x"), 30), "x" + strings.Repeat(", x", 29)},
	} {
		checkLocation(t, c.list, c.want, true)
	}
	others := lines("X-A: 1", "Content-Location: 2", ": 3", "locations: 4", "\xFF: 5")
	for i := range len(others) + 1 {
		checkLocation(t, slices.Insert(slices.Clone(others), i, api.Header{Name: "LoCation", Value: "here"}), "here", true)
	}
}

// TestExamples has those of the chapter.
func TestExamples(t *testing.T) {
	f := asked("POST", here+"/")
	checkNext(t, f, answer(307, "x"), moved(f, here+"/x"))
	checkNext(t, f, answer(303, "x"), with(moved(f, here+"/x"), func(f *api.Fetch) {
		f.Request.Method, f.Request.Body = "GET", ""
	}))
	// This one is of DOC.md, before redaction and behind it.
	for _, user := range []string{"me", "*"} {
		f := with(asked("PUT", "http://"+user+"@a/"), func(f *api.Fetch) { f.From, f.Request.Mode = "http://a", api.Cors })
		checkEnd(t, f, "http://"+user+"@b/", api.EndUser)
		checkGoes(t, with(f, func(f *api.Fetch) { f.Request.Method = "GET" }), "http://"+user+"@a/x", "http://"+user+"@a/x")
	}
}

func TestUnresolved(t *testing.T) {
	for _, f := range []api.Fetch{
		asked("GET", here+"/b/c?d#e"), asked("POST", "http://me@h"), with(asked("GET", "http://a/"), func(f *api.Fetch) { f.From = "null" }),
		{Request: api.Request{URL: "http://a"}, From: "http://a"},
	} {
		for _, s := range []string{
			"x:y", "x:", ":", ":x", "http:", "http:/", "http://", "http:///x", "http:x", "https:/b", "HTTP://", "ftp://b/", "javascript:1", "data:,x", "x:/y", "x://b", "ws://b/",
			"//", "///x", "//@b", "http://@b/", "//:80/", "//b:x/", "//b:/x", "//b:0", "//b:080", "http://b:0443/", "//b:65536", "http://b:99999", "//b:-1", "//b:+80", "//b: 80", "//b_c/", "//-b/", "//b-/", "//b..c/", "//.b", "//b./", "//[::1]/", "//\xFF/", "//%41/",
			" ", " x", "x ", "\t", "a b", "\x00", "\x7F", "\xFF", "/\u00E9", "a\nb", "/a<", "/>", "/\"", "/\\", "/^", "/`", "/{", "/|", "/}", "?\"", "? ", "?\u00E9", "#<", "# ", "#\x7F", "x?<", "x#\\",
			"x, y", "http://b/, http://b/", "//u v@b/", "//u<@b/", "//" + strings.Repeat("u", 129) + "@b/", "//u\x00@b", "//a@b@/",
			"//" + strings.Repeat("b", 64) + "/", "/" + strings.Repeat("x", 1024), "http://b/" + strings.Repeat("x", 1016), "#" + strings.Repeat("x", 1024), "?" + strings.Repeat("x", 9999),
		} {
			checkEnd(t, f, s, api.EndURL)
		}
	}
	// Several references are one, which is hardly ever a URL.
	checkResult(t, asked("GET", here), answer(302, "/x", "/y"), api.Fetch{}, api.EndURL)
	checkResult(t, asked("GET", here), answer(302, "", ""), api.Fetch{}, api.EndURL)
}

func TestResolved(t *testing.T) {
	f := asked("GET", here+"/b/c/d?e")
	for _, c := range [][2]string{
		{here + "/x", "/x"}, {here + "/x", "HTTPS://A.EXAMPLE:8443/x"}, {here + "/", here}, {here + "/?", here + "?"}, {here + "/?y", here + "?y"},
		{here + "/b", "//a.example:8443/b"}, {here + "/", "//A.example:8443"}, {here + "//x/..", "//a.example:8443//x/.."},
		{"/", "/"}, {"/x", "/x"}, {"/x/", "/x/"}, {"/x/y?z", "/x/y?z"}, {"/", "/.."}, {"/x", "/./../x"}, {"/x/", "/x/y/.."}, {"/x/", "/x/."}, {"/x?/../y", "/x?/../y"}, {"/:", "/:"}, {"//x", "/.//x"},
		{"/b/c/x", "x"}, {"/b/c/x/", "x/"}, {"/b/c/x?y", "x?y"}, {"/b/c/x/y:z", "x/y:z"}, {"/b/c/...", "..."}, {"/b/c/@", "@"}, {"/b/c/%20", "%20"}, {"/b/c/X", "X"}, {"/b/c/location", "location"},
		{"/b/c/", "."}, {"/b/c/", "./"}, {"/b/", ".."}, {"/b/", "../"}, {"/b/x", "../x"}, {"/x", "../../x"}, {"/x", "../../../x"}, {"/", "../../../../.."}, {"/b/c/x", "y/../x"}, {"/b/x", "./../x"}, {"/b/c/d?../x", "?../x"},
		{"/b/c/d?", "?"}, {"/b/c/d?x", "?x"}, {"/b/c/d?x?/", "?x?/"}, {"/b/c/d?:", "?:"},
		{"/b/c/d?e#", "#"}, {"/b/c/d?e#x", "#x"}, {"/b/c/d?e#x#?/..", "#x#?/.."}, {"/b/c/d?e#:", "#:"},
		{"/b/c/d?e", ""},
	} {
		want := c[0]
		if strings.HasPrefix(want, "/") {
			want = here + want
		}
		checkGoes(t, f, c[1], want)
	}
	for _, c := range [][3]string{
		{"http://me@h:81/p?q", "", "http://me@h:81/p?q"}, {"http://me@h:81/p?q", "x", "http://me@h:81/x"}, {"http://me@h:81/p?q", "/", "http://me@h:81/"}, {"http://me@h:81/p?q", "?", "http://me@h:81/p?"}, {"http://me@h:81/p?q", "#", "http://me@h:81/p?q#"},
		{"http://me@h:81/p?q", "//h:81/x", "http://h:81/x"}, {"http://me@h:81/p?q", "http://you@h:81", "http://you@h:81/"}, {"http://me@h:81/p?q", "//you@h:81", "http://you@h:81/"},
		{"http://h", "", "http://h/"}, {"http://h", "x", "http://h/x"}, {"HTTP://H:80", "", "http://h/"}, {"HTTP://H:80", "?", "http://h/?"}, {"hTTpS://H.x:443/A?B", "b", "https://h.x/b"}, {"https://h/a/./b/..", "", "https://h/a/./b/.."}, {"https://h/a/./b/..", ".", "https://h/a/b/"},
	} {
		f := with(asked("HEAD", c[0]), func(f *api.Fetch) { f.From = "null" })
		for _, status := range redirects {
			checkNext(t, f, answer(status, c[1]), moved(f, c[2]))
		}
	}
}

// TestText has locations whose texts are not those of their URLs.
func TestText(t *testing.T) {
	f := with(asked("GET", "http://a.example/p"), func(f *api.Fetch) { f.From = "http://a.example" })
	for _, c := range [][2]string{
		{"HTTP://A.Example", "http://a.example/"}, {"http://a.example:80", "http://a.example/"}, {"http://a.example:80/x", "http://a.example/x"}, {"//A.EXAMPLE:80?x", "http://a.example/?x"},
		{"https://B:443/", "https://b/"}, {"HTTPS://B:80", "https://b:80/"}, {"http://B:443?", "http://b:443/?"}, {"http://b:8443#", "http://b:8443/#"}, {"hTTp://U:P@B/A?B#C", "http://U:P@b/A?B#C"},
		{"//B/%2e%2E/../x", "http://b/%2e%2E/../x"}, {"http://b/a//b/./..", "http://b/a//b/./.."},
	} {
		checkGoes(t, f, c[0], c[1])
	}
}

func TestFragments(t *testing.T) {
	for _, c := range [][3]string{
		{"/p#f", "x", "/x#f"}, {"/p#f", "x#", "/x#"}, {"/p#f", "x#g", "/x#g"}, {"/p#", "x", "/x#"}, {"/p#", "x#", "/x#"}, {"/p#", "x#g", "/x#g"}, {"/p", "x", "/x"}, {"/p", "x#", "/x#"}, {"/p", "x#g", "/x#g"},
		{"/p?q#f", "", "/p?q#f"}, {"/p?q#", "", "/p?q#"}, {"/p?q", "", "/p?q"}, {"/p?q#f", "#", "/p?q#"}, {"/p?q#f", "#g", "/p?q#g"}, {"/p?q#f", "?r", "/p?r#f"}, {"/p?q#f", "?", "/p?#f"}, {"/p?q#f", "/", "/#f"}, {"/p?q#f", "..", "/#f"},
		{"/p#f", here + "/x", "/x#f"}, {"/p#f", here + "/x#", "/x#"}, {"/p#f", here, "/#f"}, {"/p#f", here + "#g", "/#g"}, {"/p#f", "//a.example:8443/y", "/y#f"}, {"/p#f", "//a.example:8443/y#", "/y#"},
		{"/p#f#?/..", "x", "/x#f#?/.."}, {"/p#f", "x#f", "/x#f"}, {"/p#?", "x", "/x#?"}, {"/p##", "x", "/x##"}, {"/p##", "x#", "/x#"},
	} {
		checkGoes(t, asked("GET", here+c[0]), c[1], here+c[2])
	}
	// It goes to another origin too.
	f := asked("GET", here+"/p?q#f")
	checkGoes(t, f, there, there+"/#f")
	checkGoes(t, f, there+"#", there+"/#")
	checkGoes(t, f, there+"#g", there+"/#g")
}

func TestTooLong(t *testing.T) {
	user := strings.Repeat("u", 128)
	for _, length := range []int{0, 1, 2, 100, 500, 990} {
		f := asked("GET", here+"/p#"+strings.Repeat("f", length))
		frag := "#" + strings.Repeat("f", length)
		fits := "/" + strings.Repeat("x", 1024-len(here)-1-len(frag))
		checkGoes(t, f, fits, here+fits+frag)
		checkEnd(t, f, fits+"x", api.EndURL)
		checkEnd(t, f, here+fits+"x", api.EndURL)
		// A fragment of its own, which is shorter, has room.
		if length > 0 {
			checkGoes(t, f, fits+"#", here+fits+"#")
			checkGoes(t, f, fits+"x#", here+fits+"x#")
		}
		// A user has room of its own.
		name := strings.Replace(here, "//", "//"+user+"@", 1)
		checkGoes(t, f, name+fits, name+fits+frag)
		checkEnd(t, f, name+fits+"x", api.EndURL)
		checkGoes(t, f, "?"+fits[3:], here+"/p?"+fits[3:]+frag)
		checkEnd(t, f, "?"+fits[2:], api.EndURL)
	}
	// The longest one of U, with a user of the base.
	f := asked("GET", "https://"+user+"@a.example:8443/"+strings.Repeat("p", 1024-len(here+"/#f"))+"#f")
	checkGoes(t, f, "", f.Request.URL)
	checkEnd(t, f, "?", api.EndURL)
	checkGoes(t, f, "?#", strings.TrimSuffix(f.Request.URL, "#f")+"?#")
	// Without a fragment, the resolved URL is as long as it may be.
	f = asked("GET", here)
	path := "/" + strings.Repeat("x", 1023-len(here))
	checkGoes(t, f, path, here+path)
	checkEnd(t, f, path+"x", api.EndURL)
	checkEnd(t, f, path+"#", api.EndURL)
}

func TestHops(t *testing.T) {
	for hops := -50; hops <= 50; hops++ {
		f := with(asked("GET", here), func(f *api.Fetch) { f.Hops = hops })
		if hops < 20 {
			checkGoes(t, f, "x", here+"/x")
		} else {
			checkEnd(t, f, "x", api.EndMany)
		}
	}
	for _, c := range []struct {
		hops, next int
		ends       bool
	}{
		{0, 1, false}, {1, 2, false}, {18, 19, false}, {19, 20, false}, {20, 0, true}, {21, 0, true}, {-1, 0, false}, {-20, -19, false},
		{math.MinInt, math.MinInt + 1, false}, {-1<<32 + 20, -1<<32 + 21, false}, {-1<<31 - 1, -1 << 31, false}, {-256, -255, false},
		{255, 0, true}, {256, 0, true}, {1 << 31, 0, true}, {1 << 32, 0, true}, {1<<32 + 5, 0, true}, {math.MaxInt - 1, 0, true}, {math.MaxInt, 0, true},
	} {
		for _, reference := range []string{"x", there + "/x", ""} {
			f := with(asked("HEAD", here+"/y"), func(f *api.Fetch) { f.Hops = c.hops })
			got, end := Next(f, answer(303, reference))
			if c.ends && (end != api.EndMany || !same(got, api.Fetch{})) || !c.ends && (end != 0 || got.Hops != c.next) {
				t.Errorf("with %d hops, Next goes on with %d, or ends with %d", c.hops, got.Hops, end)
			}
		}
	}
}

// modes holds Cors, the other modes, and numbers that are none.
var modes = []int{api.SameOrigin, api.NoCors, api.Cors, 0, 4, -1, -3, 7, 1<<8 + 3, 1<<32 + 3, -1<<31 + 3, math.MaxInt, math.MinInt}

// taints holds all ends that may be one, and numbers that are none.
var taints = []int{api.EndBasic, api.EndCors, api.EndOpaque, 0, 4, -1, -2, 6, 1<<8 + 2, 1<<32 + 2, -1<<31 + 2, math.MaxInt, math.MinInt}

// asking returns f with a mode, a taint and an origin that asks.
func asking(f api.Fetch, mode, taint int, from string) api.Fetch {
	return with(f, func(f *api.Fetch) {
		f.Request.Mode, f.Taint, f.From = mode, taint, from
	})
}

// checkUser checks a V with a user, with each mode and taint: own is whether V
// is of the origin that asks. The origins of V and U are the same.
func checkUser(t *testing.T, url, from, reference, to string, own bool) {
	t.Helper()
	for i, mode := range modes {
		for k, taint := range taints {
			// Two numbers that are none say no more than one.
			if i > 3 && k > 3 {
				continue
			}
			f := asking(asked("GET", url), mode, taint, from)
			switch {
			case taint == api.EndCors:
				checkEnd(t, f, reference, api.EndUser)
			case mode == api.Cors && !own:
				checkEnd(t, f, reference, api.EndUser)
			default:
				checkGoes(t, f, reference, to)
			}
		}
	}
}

func TestUser(t *testing.T) {
	for _, user := range []string{"u", "u:p", ":", "u:", "%40", strings.Repeat("u", 128)} {
		for _, from := range []string{"http://a", "http://b", "https://a", "http://a:8080", "null"} {
			own := from == "http://a"
			to := "http://" + user + "@a/x"
			checkUser(t, "http://a/y", from, to, to, own)
			checkUser(t, "http://a/y", from, "HTTP://"+user+"@A:80/x", to, own)
			checkUser(t, "http://a/y", from, "//"+user+"@a/x", to, own)
			// It may be that of U.
			checkUser(t, "http://"+user+"@a/y", from, "x", to, own)
			checkUser(t, "http://"+user+"@a/x", from, "", to, own)
		}
	}
}

// TestUserOfAnotherOrigin goes on from one origin to another.
func TestUserOfAnotherOrigin(t *testing.T) {
	for _, c := range []struct {
		url, from, reference, to string
		own                      bool
	}{
		{"http://a/", "http://a", "http://u@b/", "http://u@b/", false}, {"http://a/", "http://b", "http://u@b/", "http://u@b/", true}, {"http://a/", "http://c", "http://u@b/", "http://u@b/", false},
		{"http://a/", "http://a", "https://u:p@a/", "https://u:p@a/", false}, {"http://a/", "https://a", "https://u:p@a/", "https://u:p@a/", true}, {"http://a/", "http://a", "//u@a:81", "http://u@a:81/", false},
		{"http://a/", "http://a:81", "//u@a:81", "http://u@a:81/", true}, {"http://a/", "null", "//u@b", "http://u@b/", false},
	} {
		for _, mode := range modes {
			for _, taint := range taints {
				f := asking(asked("GET", c.url), mode, taint, c.from)
				if taint == api.EndCors || mode == api.Cors && !c.own {
					checkEnd(t, f, c.reference, api.EndUser)
					continue
				}
				for _, status := range redirects {
					checkNext(t, f, answer(status, c.reference), with(moved(f, c.to), func(f *api.Fetch) {
						f.Lost = c.from != "http://a"
					}))
				}
			}
		}
	}
}

// TestNoUser has URLs without a user, to which all may go on.
func TestNoUser(t *testing.T) {
	for _, mode := range modes {
		for _, taint := range taints {
			for _, from := range []string{"http://a", "http://b", "null"} {
				// That U has a user does not count.
				for _, url := range []string{"http://a/y", "http://u:p@a/y"} {
					f := asking(asked("GET", url), mode, taint, from)
					checkGoes(t, f, "http://a/x", "http://a/x")
					checkGoes(t, f, "//a/@?u@b#u@", "http://a/@?u@b#u@")
					checkGoes(t, with(f, func(f *api.Fetch) { f.Lost = true }), "http://b/x", "http://b/x")
				}
				checkGoes(t, asking(asked("GET", "http://a/y"), mode, taint, from), "x@a", "http://a/x@a")
			}
		}
	}
}

// TestOrderOfEnds has each two ends, and all three of them, at once.
func TestOrderOfEnds(t *testing.T) {
	long := strings.Repeat("x", 600)
	for _, mode := range []int{api.Cors, api.NoCors} {
		for _, taint := range []int{api.EndCors, api.EndBasic} {
			for _, hops := range []int{0, 19, 20, 21, math.MaxInt} {
				f := with(asking(asked("POST", "http://a/p#"+long), mode, taint, "http://c"), func(f *api.Fetch) { f.Hops = hops })
				for _, s := range []string{"x:y", "//u@", "http://u@b:0/", "http://u@b/ ", "http://u@b/" + long, "//u@a/" + long, long, "?" + long} {
					checkEnd(t, f, s, api.EndURL)
				}
				users := mode == api.Cors || taint == api.EndCors
				for _, s := range []string{"http://u@b/x", "http://u@a/x", "//u:p@c", "http://u@b/" + long + "#"} {
					switch {
					case hops >= 20:
						checkEnd(t, f, s, api.EndMany)
					case users && (taint == api.EndCors || s != "//u:p@c"):
						checkEnd(t, f, s, api.EndUser)
					default:
						if got, end := Next(f, answer(307, s)); end != 0 || got.Hops != hops+1 {
							t.Errorf("Next(%s, %.100q) ends with %d", show(f), s, end)
						}
					}
				}
				if hops >= 20 {
					checkEnd(t, f, "x", api.EndMany)
				}
			}
		}
	}
}

// bodyNames holds the names of the headers that go with a body.
var bodyNames = []string{"content-encoding", "content-language", "content-location", "content-type"}

// describing returns headers of a body, among others.
func describing() []api.Header {
	return lines("X-A: 1", "Content-Type: a", "CONTENT-ENCODING: b", "X-A: 2", "content-length: 5", "content-type: c", "Content-Language: d", "Accept: */*", "cONTENT-lOCATION: e", "Content-Disposition: f", "content-md5: g", "content: h", "type: i", "Location: j", "X-A: 3", "Content-Language: ", "Transfer-Encoding: k")
}

// staying returns those of describing that a GET has.
func staying() []api.Header {
	return lines("X-A: 1", "X-A: 2", "content-length: 5", "Accept: */*", "Content-Disposition: f", "content-md5: g", "content: h", "type: i", "Location: j", "X-A: 3", "Transfer-Encoding: k")
}

func TestMethods(t *testing.T) {
	methods := []string{
		"GET", "HEAD", "POST", "PUT", "", "DELETE", "OPTIONS", "PATCH", "QUERY", "CONNECT", "get", "Get", "head", "hEAD", "post", "Post", "pOST", "POSt", "put", "Put",
		" GET", "GET ", "GETS", "GE", "HEADS", "HEA", " POST", "POST ", "POSTS", "POS", "GET\x00", "POST\x00", "PO\u017FT", "\xFF", "*", "GET,POST", "POST, POST",
	}
	for _, status := range redirects {
		for _, method := range methods {
			get := status == 303 && method != "GET" && method != "HEAD" || (status == 301 || status == 302) && method == "POST"
			for _, body := range []string{"", "b", strings.Repeat("\x00\xFF", 1024), strings.Repeat("x", 9999)} {
				for _, reference := range []string{"x", "", there} {
					f := with(asked(method, here+"/y"), func(f *api.Fetch) { f.Request.Headers, f.Request.Body = describing(), body })
					want := moved(f, map[string]string{"x": here + "/x", "": here + "/y", there: there + "/"}[reference])
					if get {
						want.Request.Method, want.Request.Body, want.Request.Headers = "GET", "", staying()
					}
					checkNext(t, f, answer(status, reference), want)
				}
			}
		}
	}
}

// TestMethodsWrittenOut has what becomes of each method, without a rule.
func TestMethodsWrittenOut(t *testing.T) {
	for _, c := range []struct {
		status                       int
		get, head, post, put, no, lc string
	}{
		{301, "GET", "HEAD", "GET", "PUT", "", "post"},
		{302, "GET", "HEAD", "GET", "PUT", "", "post"},
		{303, "GET", "HEAD", "GET", "GET", "GET", "GET"},
		{307, "GET", "HEAD", "POST", "PUT", "", "post"},
		{308, "GET", "HEAD", "POST", "PUT", "", "post"},
	} {
		for before, after := range map[string]string{"GET": c.get, "HEAD": c.head, "POST": c.post, "PUT": c.put, "": c.no, "post": c.lc} {
			f := asked(before, here)
			want := with(moved(f, here+"/x"), func(f *api.Fetch) {
				if f.Request.Method = after; after != before {
					f.Request.Body = ""
				}
			})
			checkNext(t, f, answer(c.status, "x"), want)
		}
	}
}

// checkHeaders checks what becomes of headers: of a POST with 303, and of one
// with 307, both at the same origin and at another one.
func checkHeaders(t *testing.T, list, get, other, both []api.Header) {
	t.Helper()
	f := with(asked("POST", here+"/y"), func(f *api.Fetch) { f.Request.Headers = list })
	for _, c := range []struct {
		status   int
		to       string
		headers  []api.Header
		isGet    bool
		referred string
	}{
		{303, here + "/x", get, true, "x"}, {303, there + "/x", both, true, there + "/x"},
		{307, here + "/x", list, false, "x"}, {307, there + "/x", other, false, there + "/x"},
	} {
		want := with(moved(f, c.to), func(f *api.Fetch) {
			f.Request.Headers = c.headers
			if c.isGet {
				f.Request.Method, f.Request.Body = "GET", ""
			}
		})
		checkNext(t, f, answer(c.status, c.referred), want)
	}
}

func TestHeaders(t *testing.T) {
	for _, list := range [][]api.Header{nil, {}, make([]api.Header, 0, 7), make([]api.Header, 2), lines("X-A: 1"), staying()} {
		checkHeaders(t, list, list, list, list)
	}
	for _, name := range bodyNames {
		for _, s := range cases(name) {
			list := named(s)
			checkHeaders(t, list, nil, list, nil)
			list = named("x", s, s, "y", name, "content-length", s)
			checkHeaders(t, list, []api.Header{list[0], list[3], list[5]}, list, []api.Header{list[0], list[3], list[5]})
		}
		list := named(near(name)...)
		checkHeaders(t, list, list, list, list)
	}
	for _, s := range cases("authorization") {
		list := named(s)
		checkHeaders(t, list, list, nil, nil)
		list = named("x", s, s, "y", "authorization", "proxy-authorization", s)
		checkHeaders(t, list, list, []api.Header{list[0], list[3], list[5]}, []api.Header{list[0], list[3], list[5]})
	}
	list := named(near("authorization")...)
	checkHeaders(t, list, list, list, list)
	list = named("Cookie", "Set-Cookie", "Proxy-Authorization", "Authorization-Info", "WWW-Authenticate", "Origin", "Referer", "Host", "Range", "Content-Range", "X-Content-Type", "Content", "\xFF", "Content-Typ\u0130", "conten\uFF54-type", "author\u0130zation")
	checkHeaders(t, list, list, list, list)
	// A value is not a name.
	list = lines("x: content-type", "y: authorization", ": authorization")
	checkHeaders(t, list, list, list, list)
}

// TestHeadersOfBothKinds has a request that loses its body and its
// authorization, each set of them in each order.
func TestHeadersOfBothKinds(t *testing.T) {
	names := []string{"Authorization", "CONTENT-TYPE", "content-length", "Content-Encoding", "authorization", "X", "Content-Language", "content-location"}
	for set := range 1 << len(names) {
		for shift := range 2 {
			var list, get, other, both []api.Header
			for i := range names {
				if set>>i&1 == 0 {
					continue
				}
				h := api.Header{Name: names[(i*3+shift)%len(names)], Value: fmt.Sprint(i)}
				isBody, isSecret := slices.Contains(bodyNames, low(h.Name)), low(h.Name) == "authorization"
				list = append(list, h)
				if !isBody {
					get = append(get, h)
				}
				if !isSecret {
					other = append(other, h)
				}
				if !isBody && !isSecret {
					both = append(both, h)
				}
			}
			checkHeaders(t, list, get, other, both)
		}
	}
	// There may be more than a request is allowed.
	many := slices.Repeat(lines("Content-Type: a", "X: b", "Authorization: c"), 30)
	checkHeaders(t, many, slices.Repeat(lines("X: b", "Authorization: c"), 30), slices.Repeat(lines("Content-Type: a", "X: b"), 30), slices.Repeat(lines("X: b"), 30))
}

// origins holds URLs and what they lead to, and whether the origins are the same.
var origins = []struct {
	url, reference, to string
	same               bool
}{
	{"http://a/p", "x", "http://a/x", true}, {"http://a/p", "", "http://a/p", true}, {"http://a/p", "?q", "http://a/p?q", true}, {"http://a/p", "#f", "http://a/p#f", true},
	{"http://a/p", "http://a", "http://a/", true}, {"http://a/p", "http://A/", "http://a/", true}, {"http://A/p", "http://a/", "http://a/", true}, {"http://a/p", "HTTP://a:80", "http://a/", true}, {"http://a:80/p", "http://a", "http://a/", true},
	{"https://a:443/p", "https://a", "https://a/", true}, {"https://a/p", "//A:443", "https://a/", true}, {"http://a:8080/p", "//a:8080", "http://a:8080/", true}, {"http://a:443/p", "http://a:443", "http://a:443/", true}, {"http://a.B/p", "//A.b", "http://a.b/", true},
	{"http://u@a/p", "http://a", "http://a/", true}, {"http://a/p", "http://v@a", "http://v@a/", true}, {"http://u:p@a/p", "//v@a", "http://v@a/", true},
	{"http://a/p", "https://a", "https://a/", false}, {"https://a/p", "http://a", "http://a/", false}, {"http://a/p", "https://a:80", "https://a:80/", false}, {"http://a:443/p", "https://a:443", "https://a/", false}, {"https://a:80/p", "http://a", "http://a/", false},
	{"http://a/p", "http://b", "http://b/", false}, {"http://a/p", "//b/p", "http://b/p", false}, {"http://a/p", "http://a.a", "http://a.a/", false}, {"http://a.b/p", "//b", "http://b/", false}, {"http://a.b/p", "//c.b", "http://c.b/", false}, {"http://b/p", "http://a.b", "http://a.b/", false}, {"http://ab/p", "//a/b/p", "http://a/b/p", false},
	{"http://a/p", "http://a:81", "http://a:81/", false}, {"http://a:81/p", "http://a", "http://a/", false}, {"http://a:81/p", "//a:82", "http://a:82/", false}, {"http://a/p", "//a:443", "http://a:443/", false}, {"https://a/p", "//a:80/", "https://a:80/", false}, {"http://a:8080/p", "//a:808", "http://a:808/", false},
	{"http://u@a/p", "//u@b", "http://u@b/", false},
}

// TestOrigins has authorization that stays or not, and an origin that is lost or
// not.
func TestOrigins(t *testing.T) {
	froms := []string{"null", "http://a", "https://a", "http://b", "http://a:81", "http://a:443", "https://a:80", "http://a:8080", "http://a.b", "http://c.b", "http://z"}
	for _, c := range origins {
		base, e := url.Parse(c.url)
		if e != api.OK {
			t.Fatalf("%s is not valid", c.url)
		}
		for _, from := range froms {
			for _, lost := range []bool{false, true} {
				f := with(asked("GET", c.url), func(f *api.Fetch) {
					f.From, f.Lost, f.Request.Headers = from, lost, lines("X: 1", "Authorization: 2", "Accept: 3")
				})
				want := moved(f, c.to)
				if !c.same {
					want.Request.Headers = lines("X: 1", "Accept: 3")
					want.Lost = lost || from != origin.Text(origin.Of(base))
				}
				for _, status := range redirects {
					checkNext(t, f, answer(status, c.reference), want)
				}
			}
		}
	}
}

// TestLost has what becomes of an origin, without a rule.
func TestLost(t *testing.T) {
	for _, c := range []struct {
		from, url, reference string
		before, after        bool
	}{
		{"http://a", "http://a/", "http://a/x", false, false}, {"http://a", "http://a/", "http://b/", false, false}, {"http://a", "http://b/", "http://b/x", false, false}, {"http://a", "http://b/", "http://a/", false, true}, {"http://a", "http://b/", "http://c/", false, true},
		{"http://a", "https://a/", "http://a/", false, true}, {"http://a", "http://a:81/", "//a", false, true}, {"http://a", "http://A:80/", "//b", false, false}, {"https://a", "https://a:443", "http://a", false, false},
		{"null", "http://a/", "http://a/x", false, false}, {"null", "http://a/", "http://b/", false, true}, {"null", "http://a/", "https://a/", false, true},
		{"http://a", "http://a/", "http://a/x", true, true}, {"http://a", "http://a/", "http://b/", true, true}, {"http://a", "http://b/", "http://b/x", true, true}, {"http://a", "http://b/", "http://a/", true, true}, {"http://a", "http://b/", "http://c/", true, true},
		{"null", "http://a/", "http://a/x", true, true}, {"null", "http://a/", "http://b/", true, true},
	} {
		for _, method := range []string{"GET", "POST"} {
			for _, status := range redirects {
				f := with(asked(method, c.url), func(f *api.Fetch) { f.From, f.Lost = c.from, c.before })
				got, end := Next(f, answer(status, c.reference))
				if end != 0 || got.Lost != c.after || got.From != c.from {
					t.Errorf("from %s, %s leads to %s: Lost is %v behind %v", c.from, c.url, c.reference, got.Lost, c.before)
				}
			}
		}
	}
}

// TestManyHops goes on from fetch to fetch.
func TestManyHops(t *testing.T) {
	f := with(asked("PUT", here+"/#f"), func(f *api.Fetch) { f.Hops, f.Request.Headers = 0, describing() })
	for i, c := range []struct {
		status       int
		to, url      string
		method, body string
		lost         bool
	}{
		{307, "a/b", here + "/a/b#f", "PUT", "b", false}, {301, "c", here + "/a/c#f", "PUT", "b", false}, {308, there, there + "/#f", "PUT", "b", false}, {302, "x", there + "/x#f", "PUT", "b", false},
		{303, "../y#", there + "/y#", "GET", "", false}, {303, here, here + "/#", "GET", "", true}, {307, "z", here + "/z#", "GET", "", true}, {302, there + "/#g", there + "/#g", "GET", "", true}, {301, "", there + "/#g", "GET", "", true},
	} {
		g, end := Next(f, answer(c.status, c.to))
		want := with(moved(f, c.url), func(f *api.Fetch) {
			f.Request.Method, f.Request.Body, f.Lost = c.method, c.body, c.lost
			if c.method == "GET" {
				f.Request.Headers = staying()
			}
		})
		if end != 0 || !same(g, want) || g.Hops != i+1 {
			t.Fatalf("at hop %d, Next returns %s, %d", i, show(g), end)
		}
		f = g
	}
	for f.Hops < 20 {
		g, end := Next(f, answer(307, "/"))
		if end != 0 || g.Hops != f.Hops+1 {
			t.Fatalf("behind %d hops, Next returns %d, %d", f.Hops, g.Hops, end)
		}
		f = g
	}
	checkEnd(t, f, "/", api.EndMany)
}

// TestOtherFields has values in all fields that nothing depends on.
func TestOtherFields(t *testing.T) {
	numbers := []int{0, 1, 2, 3, 4, 10, 11, -1, 255, 1 << 32, math.MaxInt, math.MinInt}
	for i, n := range numbers {
		m, o := numbers[(i+3)%len(numbers)], numbers[(i+7)%len(numbers)]
		for _, nonce := range []string{"", "n", "\x00\xFF", strings.Repeat("n", 999)} {
			f := api.Fetch{
				Request: api.Request{Method: "POST", URL: here + "/y", Mode: n, Cred: m, Redirect: o, Dest: n, Nonce: nonce, Headers: named("Authorization", "X"), Body: nonce},
				From:    "http://c", Hops: -5, Taint: o,
			}
			stay := with(f, func(f *api.Fetch) { f.Hops, f.Request.URL = -4, here+"/x" })
			checkNext(t, f, answer(308, "x"), stay)
			get := with(stay, func(f *api.Fetch) { f.Request.Method, f.Request.Body = "GET", "" })
			checkNext(t, f, answer(303, "x"), get)
			other := with(get, func(f *api.Fetch) {
				f.Request.URL, f.Request.Headers, f.Lost = there+"/x", f.Request.Headers[1:], true
			})
			checkNext(t, f, answer(303, there+"/x"), other)
			// Of the response, nothing but its status and its location counts.
			x := answer(308, "x")
			x.Body = strings.Repeat(nonce, 9)
			x.Headers = slices.Concat(named("Authorization", "Content-Type", "content-location", "Refresh"), x.Headers, named("X", ""))
			checkNext(t, f, x, stay)
		}
	}
}

// TestOneList has a request and a response with the same headers.
func TestOneList(t *testing.T) {
	list := lines("Location: "+there, "Authorization: x", "Content-Type: y", "X: z")
	kept := slices.Clone(list)
	f := with(asked("POST", here), func(f *api.Fetch) {})
	f.Request.Headers = list
	for _, c := range []struct {
		status int
		want   []api.Header
	}{{307, lines("Location: "+there, "Content-Type: y", "X: z")}, {303, lines("Location: "+there, "X: z")}} {
		g, end := Next(f, api.Response{Status: c.status, Headers: list})
		if end != 0 || !slices.Equal(g.Request.Headers, c.want) || g.Request.URL != there+"/" {
			t.Errorf("Next returns %s, %d", show(g), end)
		}
		fill(g.Request.Headers)
		checkKept(t, list, kept)
	}
}

// plainNext is Next with texts in the place of URLs and origins.
func plainNext(f api.Fetch, x api.Response) (api.Fetch, int) {
	u, _ := url.Parse(f.Request.URL)
	var values []string
	for _, h := range x.Headers {
		if low(h.Name) == "location" {
			values = append(values, h.Value)
		}
	}
	v, e := join.Resolve(u, strings.Join(values, ", "))
	if e != api.OK {
		return api.Fetch{}, api.EndURL
	}
	text := url.Text(v)
	if _, frag, ok := strings.Cut(f.Request.URL, "#"); ok && !strings.Contains(text, "#") {
		text += "#" + frag
	}
	if v, e = url.Parse(text); e != api.OK {
		return api.Fetch{}, api.EndURL
	}
	from, to := origin.Text(origin.Of(u)), origin.Text(origin.Of(v))
	if f.Hops > 19 {
		return api.Fetch{}, api.EndMany
	}
	if v.User != "" && (f.Request.Mode == 3 && to != f.From || f.Taint == 2) {
		return api.Fetch{}, api.EndUser
	}
	drop := map[string]int{}
	r := f.Request
	switch [2]any{x.Status, r.Method} {
	case [2]any{301, "POST"}, [2]any{302, "POST"}, [2]any{303, r.Method}:
		if r.Method != "GET" && r.Method != "HEAD" {
			r.Method, r.Body = "GET", ""
			for _, name := range bodyNames {
				drop[name] = 1
			}
		}
	}
	if from != to {
		drop["authorization"] = 1
		f.Lost = f.Lost || from != f.From
	}
	r.Headers = nil
	for _, h := range f.Request.Headers {
		if drop[low(h.Name)] == 0 {
			r.Headers = append(r.Headers, h)
		}
	}
	r.URL = text
	f.Hops, f.Request = f.Hops+1, r
	return f, 0
}

func pick[T any](r *rand.Rand, list ...T) T {
	return list[r.Intn(len(list))]
}

func randomFetch(r *rand.Rand) api.Fetch {
	f := asked(pick(r, "GET", "HEAD", "POST", "POST", "PUT", "", "post"), pick(r, "http", "HTTPS")+"://"+pick(r, "", "", "u@", "u:p@")+pick(r, "a", "B", "a.b")+pick(r, "", "", ":80", ":443", ":81")+pick(r, "", "/", "/p", "/p/q?r", "?", "/"+strings.Repeat("x", 900))+pick(r, "", "", "#", "#f", "#"+strings.Repeat("f", 100)))
	f.From = pick(r, "null", "http://a", "http://a", "https://a", "http://b", "https://b", "http://a.b", "https://a.b:81", "http://a:81")
	f.Hops, f.Taint, f.Lost = pick(r, 0, 3, 18, 19, 20, 21, -1), pick(r, 1, 1, 2, 3, 0), r.Intn(2) == 0
	f.Request.Mode, f.Request.Cred, f.Request.Redirect, f.Request.Dest = r.Intn(5), r.Intn(5), r.Intn(5), r.Intn(12)
	for range r.Intn(6) {
		f.Request.Headers = append(f.Request.Headers, pick(r, named("Authorization", "authorization", "Content-Type", "CONTENT-LANGUAGE", "content-encoding", "Content-Location", "content-length", "X", "location")...))
	}
	return f
}

func randomReference(r *rand.Rand) string {
	if r.Intn(3) == 0 {
		out := ""
		for range r.Intn(6) {
			out += pick(r, "/", "/", "..", ".", "x", "?", "#", ":", "@", "a", "//a", " ")
		}
		return out
	}
	return pick(r, "http:", "https:", "HTTP:", "") + "//" + pick(r, "", "", "u@", "u:p@") + pick(r, "a", "A", "b", "a.b") + pick(r, "", "", ":80", ":443", ":81", ":0") + pick(r, "", "/", "/x", "?q", "/"+strings.Repeat("y", 950)) + pick(r, "", "", "#", "#g")
}

func TestRandom(t *testing.T) {
	r := rand.New(rand.NewSource(16))
	ends := map[int]int{}
	changes := map[string]int{}
	for range 30000 {
		f := randomFetch(r)
		x := answer(pick(r, redirects...), randomReference(r))
		want, end := plainNext(f, x)
		checkResult(t, f, x, want, end)
		ends[end]++
		if end == 0 && want.Request.Method != f.Request.Method {
			changes["method"]++
		}
		if end == 0 && len(want.Request.Headers) != len(f.Request.Headers) {
			changes["headers"]++
		}
		if end == 0 && want.Lost != f.Lost {
			changes["lost"]++
		}
	}
	for _, end := range []int{0, api.EndURL, api.EndMany, api.EndUser} {
		if ends[end] < 1000 {
			t.Errorf("of the ends %v, %d is hardly tested", ends, end)
		}
	}
	for _, s := range []string{"method", "headers", "lost"} {
		if changes[s] < 1000 {
			t.Errorf("of the changes %v, that of %s is hardly tested", changes, s)
		}
	}
}

// TestUnspecified has calls for which nothing is specified but that they return.
func TestUnspecified(t *testing.T) {
	for _, text := range []string{"", "x", "/", "//", "ftp://a/", "http://", "\xFF", strings.Repeat("x", 9999)} {
		for _, from := range []string{"", "x", "null", "http://a/", "\xFF"} {
			for _, status := range []int{0, 200, 301, 303, -1, math.MaxInt} {
				for _, x := range []api.Response{{}, {Status: status}, answer(status, ""), answer(status, "http://u@a"), answer(status, ".."), answer(status, "\xFF", "")} {
					for _, hops := range []int{0, 20, math.MinInt, math.MaxInt} {
						f := with(asked("POST", text), func(f *api.Fetch) { f.From, f.Hops = from, hops })
						kept := slices.Clone(f.Request.Headers)
						Next(f, x)
						checkKept(t, f.Request.Headers, kept)
					}
				}
			}
		}
	}
	Next(api.Fetch{}, api.Response{})
}

// TestNothingIsKept calls both functions in turns.
func TestNothingIsKept(t *testing.T) {
	f := with(asked("POST", here+"/y#f"), func(f *api.Fetch) { f.Request.Headers = named("Authorization", "Content-Type") })
	for range 3 {
		checkLeads(t, answer(301, "x"), "x", true)
		checkNext(t, f, answer(307, "x"), moved(f, here+"/x#f"))
		checkNext(t, f, answer(307, there+"#g"), with(moved(f, there+"/#g"), func(f *api.Fetch) { f.Request.Headers = f.Request.Headers[1:] }))
		checkEnd(t, f, "x:y", api.EndURL)
		checkLeads(t, answer(304, "x"), "", false)
		checkEnd(t, with(f, func(f *api.Fetch) { f.Hops = 20 }), "", api.EndMany)
		checkEnd(t, with(f, func(f *api.Fetch) { f.Taint = api.EndCors }), "//u@b", api.EndUser)
	}
}

func FuzzHop(f *testing.F) {
	f.Add(here+"/p#f", here, "//u@b", 303, "POST", 3, 1, 0, false, "Authorization")
	f.Add("http://u@a", "null", "../x?y", 301, "PUT", 2, 2, 19, true, "content-type")
	f.Add("HTTP://A:80", "http://a", "HTTP://a#", 308, "get", 1, 3, 20, false, "x")
	f.Add("http://a/"+strings.Repeat("x", 1015), "http://b", "?", 302, "", 0, 0, -1, false, "CONTENT-language")
	f.Fuzz(func(t *testing.T, text, from, reference string, status int, method string, mode, taint, hops int, lost bool, name string) {
		x := answer(status, reference)
		x.Headers = append(x.Headers, api.Header{Name: name, Value: reference})
		if !slices.Contains(redirects, status) {
			checkLeads(t, x, "", false)
			x.Status = redirects[uint(status)%5]
		}
		want := reference
		if low(name) == "location" {
			want += ", " + reference
		}
		checkLeads(t, x, want, true)
		if _, e := url.Parse(text); e != api.OK {
			text = here + "/b?c#d"
		}
		if _, e := origin.Parse(from); e != api.OK {
			from = "null"
		}
		g := api.Fetch{
			Request: api.Request{Method: method, URL: text, Mode: mode, Headers: append(describing(), named(name, "Authorization", "X", name)...), Body: reference},
			From:    from, Hops: hops, Taint: taint, Lost: lost,
		}
		next, end := plainNext(g, x)
		checkResult(t, g, x, next, end)
	})
}
