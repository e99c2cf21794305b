package csp

import (
	"fmt"
	"math"
	"math/rand"
	"regexp"
	"slices"
	"strings"
	"testing"

	"pursuivant/api"
	"pursuivant/origin"
	"pursuivant/source"
	"pursuivant/url"
)

const (
	lowers = "abcdefghijklmnopqrstuvwxyz"
	uppers = "ABCDEFGHIJKLMNOPQRSTUVWXYZ"
)

// allNames holds the twelve directives, as the chapter lists them.
var allNames = []string{
	"default-src", "script-src", "style-src", "img-src", "font-src", "connect-src",
	"media-src", "frame-src", "child-src", "worker-src", "object-src", "manifest-src",
}

// precedence holds the directives of the destinations from 0 to 11.
var precedence = [][]string{
	{},
	{"script-src", "default-src"},
	{"style-src", "default-src"},
	{"img-src", "default-src"},
	{"font-src", "default-src"},
	{"connect-src", "default-src"},
	{"media-src", "default-src"},
	{"frame-src", "child-src", "default-src"},
	{"worker-src", "child-src", "script-src", "default-src"},
	{"object-src", "default-src"},
	{"manifest-src", "default-src"},
	{},
}

// otherDests holds destinations that there are not.
var otherDests = []int{0, 11, -1, -2, -8, -10, 12, 13, 16, 99, 255, 256, 257, 258, 264, 1<<16 + 1, 1<<31 - 1, 1 << 31, 1<<32 + 1, 1<<32 + 8, math.MaxInt, math.MinInt, math.MinInt + 1, math.MinInt + 2}

// badWords holds words that are no sources, though some look like one.
var badWords = []string{
	"'none'", "'NONE'", "'unsafe-inline'", "'unsafe-eval'", "'strict-dynamic'", "'self", "self'", "\"self\"", "'nonce-'", "'nonce-a", "nonce-a'", "'nonce-\u00E9'", "'sha256-a'",
	"bad_", "a.", "-a", "a..b", "**", "*a", "*.", "*.*.a", "a:", "a:0", "a:80x", "a:65536", "a:080", "ftp:", "ftp://a", "http://", "https:///", "data:", "://a", "/", "/a", "a/?", "a/#b", "a,b", ",", "a\n", "\ra", "a\va", "\f", "\x00", "\xFF", "\u00E9", "\u00A0", "a\u2003b", "\u212A",
}

// some holds a source of each Kind by its text, and several of SrcHost.
func some() map[string]api.Source {
	return map[string]api.Source{
		"'self'":                 {Kind: 1},
		"'SELF'":                 {Kind: 1},
		"*":                      {Kind: 2},
		"http:":                  {Kind: 3, Scheme: "http"},
		"HTTPS:":                 {Kind: 3, Scheme: "https"},
		"a":                      {Kind: 4, Host: "a"},
		"A.Example":              {Kind: 4, Host: "a.example"},
		"*.a:*":                  {Kind: 4, Sub: true, Host: "a", Port: -1},
		"Https://*.b.a:8443/C/d": {Kind: 4, Scheme: "https", Sub: true, Host: "b.a", Port: 8443, Path: "/C/d"},
		"script-src":             {Kind: 4, Host: "script-src"},
		"default-src":            {Kind: 4, Host: "default-src"},
		"'nonce-aB+/_-9='":       {Kind: 5, Nonce: "aB+/_-9="},
		"'Nonce-X'":              {Kind: 5, Nonce: "X"},
	}
}

// swap returns s with each byte of from replaced by that of to.
func swap(s, from, to string) string {
	out := []byte(s)
	for i, c := range out {
		if place := strings.IndexByte(from, c); place >= 0 {
			out[i] = to[place]
		}
	}
	return string(out)
}

func plainLower(s string) string { return swap(s, uppers, lowers) }
func plainUpper(s string) string { return swap(s, lowers, uppers) }

// cases returns s in lower and upper case, in mixed case, and with a single
// letter in the other case at each place.
func cases(s string) []string {
	low, up := plainLower(s), plainUpper(s)
	mixed := []byte(low)
	for i := 0; i < len(mixed); i += 2 {
		mixed[i] = up[i]
	}
	out := []string{low, up, string(mixed)}
	for i := range len(s) {
		out = append(out, low[:i]+up[i:i+1]+low[i+1:], up[:i]+low[i:i+1]+up[i+1:])
	}
	return out
}

// text returns the text of one byte.
func text(c int) string {
	return string([]byte{byte(c)})
}

// list makes a policy of directives.
func list(directives ...api.Directive) api.Policy {
	return api.Policy{Directives: directives}
}

// named makes a directive that has a host for each of the texts.
func named(name string, hosts ...string) api.Directive {
	d := api.Directive{Name: name}
	for _, host := range hosts {
		d.Sources = append(d.Sources, api.Source{Kind: api.SrcHost, Host: host})
	}
	return d
}

func sameDirective(a, b api.Directive) bool {
	return a.Name == b.Name && slices.Equal(a.Sources, b.Sources)
}

func samePolicy(a, b api.Policy) bool {
	return slices.EqualFunc(a.Directives, b.Directives, sameDirective)
}

// copied returns a policy that shares no list with p.
func copied(p api.Policy) api.Policy {
	var out api.Policy
	for _, d := range p.Directives {
		out.Directives = append(out.Directives, api.Directive{Name: d.Name, Sources: slices.Clone(d.Sources)})
	}
	return out
}

var (
	partForm = regexp.MustCompile(`[^;]+`)
	wordForm = regexp.MustCompile(`[^ \t]+`)
)

// plainParse takes s apart by regular expressions.
func plainParse(s string) (api.Policy, api.Errno) {
	var p api.Policy
	if len(s) >= 1025 {
		return p, api.ErrOver
	}
	left := map[string]int{}
	for _, name := range allNames {
		left[name] = 1
	}
	for _, part := range partForm.FindAllString(s, -1) {
		words := wordForm.FindAllString(part, -1)
		if words == nil || left[plainLower(words[0])] == 0 {
			continue
		}
		d := api.Directive{Name: plainLower(words[0])}
		left[d.Name] = 0
		for _, word := range words[1:] {
			if x, ok := source.Parse(word); ok {
				d.Sources = append(d.Sources, x)
			}
		}
		p.Directives = append(p.Directives, d)
	}
	return p, api.OK
}

// plainFind ranks the directives, and takes the first one of the best rank.
func plainFind(p api.Policy, dest int) (api.Directive, bool) {
	best, found := api.Directive{}, math.MaxInt
	if dest < 0 || dest >= len(precedence) {
		return best, false
	}
	for _, d := range p.Directives {
		if rank := slices.Index(precedence[dest], d.Name); rank >= 0 && rank < found {
			best, found = d, rank
		}
	}
	return best, found < math.MaxInt
}

func plainAllows(p api.Policy, dest int, nonce string, u api.URL, self api.Origin, moved bool) bool {
	d, ok := plainFind(p, dest)
	allowed := !ok
	for _, x := range d.Sources {
		allowed = allowed || source.Match(x, u, self, moved)
		if dest == 1 || dest == 2 {
			allowed = allowed || x == api.Source{Kind: 5, Nonce: nonce}
		}
	}
	return allowed
}

// show writes out a value, as far as a line has room for it.
func show(v any) string {
	return fmt.Sprintf("%.400s", fmt.Sprintf("%+v", v))
}

func checkParse(t *testing.T, s string, want ...api.Directive) {
	t.Helper()
	if p, e := Parse(s); !samePolicy(p, list(want...)) || e != api.OK {
		t.Errorf("Parse(%.300q) = %s, %d, want %s", s, show(p), e, show(want))
	}
}

func checkOver(t *testing.T, s string) {
	t.Helper()
	if p, e := Parse(s); len(p.Directives) != 0 || e != api.ErrOver {
		t.Errorf("Parse(%.100q) of %d bytes = %s, %d, want ErrOver", s, len(s), show(p), e)
	}
}

// checkPlain compares with the model, and returns what that has.
func checkPlain(t *testing.T, s string) api.Policy {
	t.Helper()
	p, e := plainParse(s)
	if e != api.OK {
		checkOver(t, s)
	} else {
		checkParse(t, s, p.Directives...)
	}
	return p
}

func checkFind(t *testing.T, p api.Policy, dest int, want api.Directive) {
	t.Helper()
	if d, ok := Find(p, dest); !sameDirective(d, want) || !ok {
		t.Errorf("Find(%s, %d) = %s, %v, want %s", show(p), dest, show(d), ok, show(want))
	}
}

func checkNoFind(t *testing.T, p api.Policy, dest int) {
	t.Helper()
	if d, ok := Find(p, dest); d.Name != "" || len(d.Sources) != 0 || ok {
		t.Errorf("Find(%s, %d) = %s, %v, want nothing", show(p), dest, show(d), ok)
	}
}

func checkFindPlain(t *testing.T, p api.Policy, dest int) {
	t.Helper()
	if want, ok := plainFind(p, dest); ok {
		checkFind(t, p, dest, want)
	} else {
		checkNoFind(t, p, dest)
	}
}

// query is what Allows is asked, as texts; without self it is the opaque origin.
type query struct {
	dest     int
	nonce    string
	to, self string
	moved    bool
}

// checkAllows compares with what is wanted and with the model.
func checkAllows(t *testing.T, policy string, q query, want bool) {
	t.Helper()
	p, e := Parse(policy)
	u, e2 := url.Parse(q.to)
	var self api.Origin
	e3 := api.OK
	if q.self != "" {
		self, e3 = origin.Parse(q.self)
	}
	if e != api.OK || e2 != api.OK || e3 != api.OK {
		t.Fatalf("the test has a wrong policy %q or query %+v", policy, q)
	}
	if got := Allows(p, q.dest, q.nonce, u, self, q.moved); got != want {
		t.Errorf("Allows of %q with %+v = %v", policy, q, got)
	}
	if plainAllows(p, q.dest, q.nonce, u, self, q.moved) != want {
		t.Errorf("the model says otherwise of %q with %+v", policy, q)
	}
}

func TestParseKnown(t *testing.T) {
	self, star := api.Source{Kind: 1}, api.Source{Kind: 2}
	checkParse(t, "default-src 'none'; img-src *", named("default-src"), api.Directive{Name: "img-src", Sources: []api.Source{star}})
	checkParse(t, "script-src 'self' a; script-src *", api.Directive{Name: "script-src", Sources: []api.Source{self, {Kind: 4, Host: "a"}}})
	checkParse(t, " FONT-src\tHTTPS:  'Nonce-Q' ;; child-SRC;", api.Directive{Name: "font-src", Sources: []api.Source{{Kind: 3, Scheme: "https"}, {Kind: 5, Nonce: "Q"}}}, named("child-src"))
	checkParse(t, "img-src a;font-src b;img-src c", named("img-src", "a"), named("font-src", "b"))
	checkParse(t, "font-src b;img-src a", named("font-src", "b"), named("img-src", "a"))
	checkParse(t, "img-src default-src a", named("img-src", "default-src", "a"))
	checkParse(t, "img-src img-src", named("img-src", "img-src"))
	checkParse(t, "img-src a, font-src b", named("img-src", "font-src", "b"))
	checkParse(t, "a img-src b")
	checkParse(t, "'self'")
	checkParse(t, "*")
}

func TestParseEmpty(t *testing.T) {
	checkParse(t, "")
	for _, s := range []string{" ", "\t", "  ", " \t ", ";", ";;", "; ;", " ; ", "\t;\t", " \t;; \t;\t ", strings.Repeat(" ;", 100)} {
		checkParse(t, s)
	}
}

// TestPartsWithoutWords has them before, between and behind other parts.
func TestPartsWithoutWords(t *testing.T) {
	empties := []string{"", " ", "\t", "   ", "\t\t", " \t \t"}
	for _, one := range empties {
		for _, other := range empties {
			checkParse(t, one+";img-src a", named("img-src", "a"))
			checkParse(t, one+";"+other+";img-src a", named("img-src", "a"))
			checkParse(t, "img-src a;"+one, named("img-src", "a"))
			checkParse(t, "img-src a;"+one+";"+other, named("img-src", "a"))
			checkParse(t, "img-src a;"+one+";font-src b", named("img-src", "a"), named("font-src", "b"))
			checkParse(t, "img-src a;"+one+";"+other+";font-src b", named("img-src", "a"), named("font-src", "b"))
			checkParse(t, one+";"+other+";img-src;"+one+";"+other+";font-src b;"+one+";"+other, named("img-src"), named("font-src", "b"))
			checkParse(t, one+"img-src a"+other+";"+other+"font-src b"+one, named("img-src", "a"), named("font-src", "b"))
		}
	}
}

func TestParseLengths(t *testing.T) {
	fill := func(start, unit, end string, length int) string {
		middle := strings.Repeat(unit, length)[:length-len(start)-len(end)]
		return start + middle + end
	}
	for _, length := range []int{1000, 1022, 1023, 1024} {
		checkParse(t, fill("", ";", "", length))
		checkParse(t, fill("", " ", "", length))
		checkParse(t, fill("", "x", "", length))
		checkParse(t, fill("", "\xFF", "", length))
		checkParse(t, fill("", "\u00E9", "", length))
		checkParse(t, fill("img-src a", " ", "", length), named("img-src", "a"))
		checkParse(t, fill("", " ", "img-src a", length), named("img-src", "a"))
		checkParse(t, fill("", "\t", "img-src", length), named("img-src"))
		checkParse(t, fill("", ";", "img-src a", length), named("img-src", "a"))
		checkParse(t, fill("img-src", " ", "a", length), named("img-src", "a"))
		checkParse(t, fill("img-src 'self", "x", "", length), named("img-src"))
		path := strings.Repeat("p", length-len("img-src a/"))
		checkParse(t, "img-src a/"+path, api.Directive{Name: "img-src", Sources: []api.Source{{Kind: 4, Host: "a", Path: "/" + path}}})
	}
	hosts := slices.Repeat([]string{"a", "b"}, 254)
	many := "img-src " + strings.Join(hosts, " ")
	if len(many) != 1023 {
		t.Fatal("the test has a list of", len(many), "bytes")
	}
	checkParse(t, many, named("img-src", hosts...))
	checkParse(t, many+";", named("img-src", hosts...))
	checkOver(t, many+"; ")
	for _, length := range []int{1025, 1026, 1027, 1028, 1100, 2048, 1 << 16, 1<<16 + 10, 1 << 20} {
		for _, unit := range []string{";", " ", "x", "\t", "a ", "\xFF", "\x00"} {
			checkOver(t, fill("", unit, "", length))
			checkOver(t, fill("img-src a", unit, "", length))
			checkOver(t, fill("", unit, ";img-src a", length))
		}
	}
	// The limit is one of bytes, not of letters.
	checkParse(t, "img-src "+strings.Repeat("\u00E9", 508), named("img-src"))
	checkOver(t, "img-src "+strings.Repeat("\u00E9", 509))
}

func TestNamesOfDirectives(t *testing.T) {
	if len(allNames) != 12 {
		t.Fatal(len(allNames))
	}
	for _, name := range allNames {
		for _, s := range cases(name) {
			checkParse(t, s, named(name))
			checkParse(t, s+" a", named(name, "a"))
			checkParse(t, "\t"+s+"\tA ;", named(name, "a"))
			checkParse(t, ";"+s+" a;"+s+" b", named(name, "a"))
		}
	}
	var all []api.Directive
	for _, name := range allNames {
		all = append(all, named(name, "a", name))
	}
	for range len(all) {
		var parts []string
		for _, d := range all {
			parts = append(parts, d.Name+" a "+d.Name)
		}
		checkParse(t, strings.Join(parts, ";"), all...)
		checkParse(t, plainUpper(strings.Join(parts, " ; ")), all...)
		all = append(all[1:len(all):len(all)], all[0])
	}
}

func TestNamesThatAreNot(t *testing.T) {
	for _, name := range []string{
		"a", "src", "-src", "default", "script", "img", "default_src", "default src", "default--src", "defaultsrc", "image-src", "script-src-elem", "script-src-attr", "style-src-elem", "style-src-attr", "sandbox", "report-uri", "report-to", "form-action", "base-uri", "frame-ancestors", "navigate-to", "prefetch-src", "plugin-types", "block-all-mixed-content", "upgrade-insecure-requests",
		"img-src:", "img-src,", "img-src=a", "'img-src'", "\"img-src\"", "*", "'self'", "img-\u017Frc", "\u0131mg-src", "connect\u2010src", "\xFFimg-src", "img-src\xFF", "img-src\x00", "img-src\n", "img-src\r", "\u00A0img-src", "\uFEFFimg-src", "img-src\u2003a",
	} {
		checkParse(t, name)
		checkParse(t, name+" a")
		checkParse(t, name+" a; font-src b", named("font-src", "b"))
		checkParse(t, "font-src b;"+name+" a", named("font-src", "b"))
		checkParse(t, name+" img-src a")
	}
}

// TestNamesNearDirectives has each directive with one byte removed, added or
// changed.
func TestNamesNearDirectives(t *testing.T) {
	for _, name := range allNames {
		checkParse(t, name[1:]+" a")
		checkParse(t, name[:len(name)-1]+" a")
		checkParse(t, name+"s a")
		checkParse(t, "x"+name+" a")
		checkParse(t, name+name+" a")
		for i := range len(name) {
			checkParse(t, name[:i]+name[i+1:]+" a; OBJECT-src b", named("object-src", "b"))
			for c := range 256 {
				changed := name[:i] + text(c) + name[i+1:]
				checkPlain(t, changed+" a")
				if plainLower(changed) != name && !strings.Contains("; \t", text(c)) {
					checkParse(t, changed+" a")
				}
				checkPlain(t, name[:i]+text(c)+name[i:]+" a")
			}
		}
	}
}

func TestDirectivesThatOccurTwice(t *testing.T) {
	for i, name := range allNames {
		other := allNames[(i+5)%12]
		for _, again := range []string{name, plainUpper(name), cases(name)[2]} {
			checkParse(t, name+" a;"+again+" b", named(name, "a"))
			checkParse(t, again+" b;"+name+" a", named(name, "b"))
			checkParse(t, name+";"+again+" b", named(name))
			checkParse(t, name+" 'none';"+again+" b", named(name))
			checkParse(t, name+" a;"+again, named(name, "a"))
			checkParse(t, name+" a;sandbox;"+again+" b", named(name, "a"))
			checkParse(t, name+" a;"+name+"x c;"+again+" b", named(name, "a"))
			checkParse(t, name+" a; ;"+again+" b", named(name, "a"))
			checkParse(t, name+" a;"+other+" c;"+again+" b", named(name, "a"), named(other, "c"))
			checkParse(t, name+" a;"+other+" c;"+again+" b;"+plainUpper(other)+" d;"+name, named(name, "a"), named(other, "c"))
			checkParse(t, name+" a;"+again+" b;"+again+" c;"+other+" d", named(name, "a"), named(other, "d"))
		}
		// What is ignored does not count as having occurred, nor does a source.
		checkParse(t, name+"x a;"+name+" b", named(name, "b"))
		checkParse(t, other+" "+name+";"+name+" b", named(other, name), named(name, "b"))
	}
	checkParse(t, "sandbox a;sandbox b;SANDBOX c;img-src d", named("img-src", "d"))
}

func TestWhitespace(t *testing.T) {
	for _, gap := range []string{" ", "\t", "  ", "\t\t", " \t", "\t ", "     ", " \t \t\t  "} {
		checkParse(t, "img-src"+gap+"a", named("img-src", "a"))
		checkParse(t, "img-src"+gap+"a"+gap+"b", named("img-src", "a", "b"))
		checkParse(t, gap+"img-src"+gap+"a"+gap+"b"+gap, named("img-src", "a", "b"))
		checkParse(t, gap+"img-src"+gap+";"+gap+"font-src"+gap+"a"+gap, named("img-src"), named("font-src", "a"))
		checkParse(t, "img"+gap+"-src a")
		checkParse(t, "img-src a"+gap+".b", named("img-src", "a"))
	}
	for _, no := range []string{"\n", "\r", "\r\n", "\v", "\f", "\x00", "\x1F", "\x7F", "\x85", "\xA0", "\u0085", "\u00A0", "\u1680", "\u2003", "\u2028", "\u2029", "\u202F", "\u3000", "\uFEFF", "\uFFFD", "\u0120", "\u0109", "\u013B", "\u2020", "\U00010009", "\U00012020", ",", "|"} {
		checkParse(t, "img-src"+no+"a")
		checkParse(t, no+"img-src a")
		checkParse(t, "img-src a"+no+"b", named("img-src"))
		checkParse(t, "img-src a"+no+" b", named("img-src", "b"))
		checkParse(t, "img-src a "+no+"b", named("img-src", "a"))
		checkParse(t, "img-src a "+no+" b", named("img-src", "a", "b"))
		checkParse(t, "img-src a;"+no+";font-src b", named("img-src", "a"), named("font-src", "b"))
		checkParse(t, "img-src a"+no, named("img-src"))
		checkParse(t, no)
	}
}

// TestPartsAgain leaves the iterator early, and runs it again.
func TestPartsAgain(t *testing.T) {
	all := parts("; a b;\t;c;d e f ")
	for most := range 5 {
		var got []string
		for words := range all {
			got = append(got, strings.Join(words, " "))
			if len(got) >= most {
				break
			}
		}
		if want := []string{"a b", "c", "d e f"}[:min(max(most, 1), 3)]; !slices.Equal(got, want) {
			t.Errorf("the first parts are %q, want %q", got, want)
		}
	}
}

// TestEveryByte has each byte between words, and in them.
func TestEveryByte(t *testing.T) {
	for c := range 256 {
		one := text(c)
		switch one {
		case " ", "\t":
			checkParse(t, "img-src"+one+"a"+one+one+"b"+one, named("img-src", "a", "b"))
		case ";":
			checkParse(t, "img-src"+one+"a"+one+one+"b"+one, named("img-src"))
			checkParse(t, "img-src a"+one+"font-src b", named("img-src", "a"), named("font-src", "b"))
		default:
			checkParse(t, "img-src"+one+"a"+one+one+"b"+one)
			p, _ := Parse("img-src a" + one + "font-src b")
			if n := len(p.Directives); n != 1 {
				t.Errorf("with byte %d between them, there are %d directives", c, n)
			}
		}
		for _, s := range []string{"img-src a" + one + "b", "img-src a " + one + " b", "img-src " + one + "a", "img-src a" + one, one + "img-src a", "img-src 'nonce-" + one + "'", "img-src a/" + one, "img-src a;" + one + ";font-src b", one} {
			checkPlain(t, s)
		}
	}
}

func TestSourcesOfEachKind(t *testing.T) {
	all := some()
	for one, x := range all {
		checkParse(t, "img-src "+one, api.Directive{Name: "img-src", Sources: []api.Source{x}})
		checkParse(t, "img-src "+one+" "+one+"\t"+one, api.Directive{Name: "img-src", Sources: []api.Source{x, x, x}})
		for other, y := range all {
			checkParse(t, "img-src "+one+" "+other, api.Directive{Name: "img-src", Sources: []api.Source{x, y}})
			checkParse(t, "img-src "+one+" "+other+" "+one, api.Directive{Name: "img-src", Sources: []api.Source{x, y, x}})
			checkParse(t, "img-src "+one+" "+other+" "+other+" "+one+";font-src "+other, api.Directive{Name: "img-src", Sources: []api.Source{x, y, y, x}}, api.Directive{Name: "font-src", Sources: []api.Source{y}})
			checkPlain(t, "img-src "+one+";"+other)
		}
	}
	for _, name := range allNames {
		checkParse(t, name+" 'self' * http: a 'nonce-n' https: *.b:* 'self'", api.Directive{Name: name, Sources: []api.Source{
			{Kind: 1}, {Kind: 2}, {Kind: 3, Scheme: "http"}, {Kind: 4, Host: "a"}, {Kind: 5, Nonce: "n"}, {Kind: 3, Scheme: "https"}, {Kind: 4, Sub: true, Host: "b", Port: -1}, {Kind: 1},
		}})
	}
}

func TestWordsThatAreNoSources(t *testing.T) {
	self := api.Source{Kind: 1}
	for _, word := range badWords {
		if _, ok := source.Parse(word); ok {
			t.Fatalf("the test has %q as no source", word)
		}
		checkParse(t, "img-src "+word, named("img-src"))
		checkParse(t, "img-src "+word+" "+word, named("img-src"))
		checkParse(t, "img-src "+word+" a", named("img-src", "a"))
		checkParse(t, "img-src a "+word, named("img-src", "a"))
		checkParse(t, "img-src a "+word+" b", named("img-src", "a", "b"))
		checkParse(t, "img-src "+word+" a "+word+"\t"+word+" b "+word, named("img-src", "a", "b"))
		checkParse(t, "img-src "+word+" 'self'; font-src 'self' "+word, api.Directive{Name: "img-src", Sources: []api.Source{self}}, api.Directive{Name: "font-src", Sources: []api.Source{self}})
	}
}

func TestDirectivesWithoutSources(t *testing.T) {
	var all []api.Directive
	for _, name := range allNames {
		all = append(all, named(name))
		for _, s := range []string{name, name + ";", ";" + name, " " + name + " ", name + "\t", name + "; ", name + " 'none'", name + " bad_ 'none'"} {
			checkParse(t, s, named(name))
			checkParse(t, s+";"+s, named(name))
		}
	}
	checkParse(t, strings.Join(allNames, ";"), all...)
	checkParse(t, "child-src;media-src a;worker-src", named("child-src"), named("media-src", "a"), named("worker-src"))
}

// allOf makes a policy of all directives, without some of them, in the order
// that starts at one of them.
func allOf(start int, without ...string) api.Policy {
	var p api.Policy
	for i := range allNames {
		name := allNames[(start+i)%12]
		if !slices.Contains(without, name) {
			p.Directives = append(p.Directives, named(name, "a", "of."+name))
		}
	}
	return p
}

func TestFindOfAll(t *testing.T) {
	for start := range 12 {
		p := allOf(start)
		for dest, want := range []string{"", "script-src", "style-src", "img-src", "font-src", "connect-src", "media-src", "frame-src", "worker-src", "object-src", "manifest-src", ""} {
			if want == "" {
				checkNoFind(t, p, dest)
			} else {
				checkFind(t, p, dest, named(want, "a", "of."+want))
			}
		}
		for _, dest := range otherDests {
			checkNoFind(t, p, dest)
		}
	}
}

func TestFindOfSingles(t *testing.T) {
	count := 0
	for dest := range 12 {
		for _, name := range allNames {
			p := list(named(name, "a"))
			if slices.Contains(precedence[dest], name) {
				checkFind(t, p, dest, named(name, "a"))
				checkFind(t, list(named(name)), dest, named(name))
				count++
			} else {
				checkNoFind(t, p, dest)
			}
		}
	}
	if count != 23 {
		t.Errorf("%d pairs of a destination and a directive", count)
	}
	for _, name := range allNames {
		for _, dest := range otherDests {
			checkNoFind(t, list(named(name, "a")), dest)
		}
	}
}

func TestFindOfMissing(t *testing.T) {
	for start := range 12 {
		for dest, names := range precedence {
			for i := range names {
				// All before it are missing too, then only itself.
				p := allOf(start, names[:i]...)
				checkFind(t, p, dest, named(names[i], "a", "of."+names[i]))
				want := names[0]
				if i == 0 {
					want = names[1]
				}
				checkFind(t, allOf(start, names[i]), dest, named(want, "a", "of."+want))
			}
			checkNoFind(t, allOf(start, names...), dest)
		}
		for _, name := range allNames {
			for dest := range 12 {
				checkFindPlain(t, allOf(start, name), dest)
			}
		}
	}
}

// TestFindOfEveryChoice has every choice of the directives of a worker and of a
// frame, in either order.
func TestFindOfEveryChoice(t *testing.T) {
	names := []string{"default-src", "script-src", "child-src", "worker-src", "frame-src"}
	for choice := range 1 << len(names) {
		var p api.Policy
		for i, name := range names {
			if choice>>i&1 == 1 {
				p.Directives = append(p.Directives, named(name, name))
			}
		}
		for range 2 {
			for dest := range 12 {
				checkFindPlain(t, p, dest)
			}
			slices.Reverse(p.Directives)
		}
	}
}

func TestFindOfNone(t *testing.T) {
	for dest := range 12 {
		checkNoFind(t, api.Policy{}, dest)
		checkNoFind(t, list(), dest)
		checkNoFind(t, api.Policy{Directives: []api.Directive{}}, dest)
		checkNoFind(t, list(api.Directive{}, api.Directive{}), dest)
	}
	for _, dest := range otherDests {
		checkNoFind(t, api.Policy{}, dest)
	}
}

// TestFindOfOneName has several directives of one Name, which no result of
// Parse has.
func TestFindOfOneName(t *testing.T) {
	for dest, names := range precedence {
		for _, name := range names {
			checkFind(t, list(named(name, "a"), named(name, "b")), dest, named(name, "a"))
			checkFind(t, list(named(name, "b"), named(name, "a")), dest, named(name, "b"))
			checkFind(t, list(named(name), named(name, "b"), named(name, "c")), dest, named(name))
			checkFind(t, list(named("sandbox", "x"), named(name, "c"), named("x"), named(name, "b")), dest, named(name, "c"))
			for _, other := range allNames {
				checkFindPlain(t, list(named(other, "1"), named(name, "2"), named(other, "3"), named(name, "4")), dest)
				checkFindPlain(t, list(named(name, "1"), named(other, "2"), named(other, "3"), named(name, "4")), dest)
			}
		}
	}
}

// TestFindIsOfBytes has Names that Parse does not make, which are not found,
// and sources that are not valid, which are returned as they are.
func TestFindIsOfBytes(t *testing.T) {
	for dest, names := range precedence {
		for _, name := range names {
			for _, other := range append(cases(name), " "+name, name+" ", name[1:], name+"s", "", "\xFF", name+";", "'"+name+"'") {
				if other == name {
					continue
				}
				checkNoFind(t, list(named(other, "a")), dest)
				checkFind(t, list(named(other, "a"), named(name, "b")), dest, named(name, "b"))
			}
			odd := api.Directive{Name: name, Sources: []api.Source{{}, {Kind: math.MinInt, Port: math.MaxInt, Sub: true}, {Kind: 5, Host: "\xFF", Path: " ", Nonce: "'"}, {Kind: 4, Scheme: "ftp"}}}
			checkFind(t, list(odd), dest, odd)
		}
	}
}

func TestAllowsWhatNothingIsSaidOf(t *testing.T) {
	for dest := range 12 {
		others := []string{"", ";", "sandbox", "default-srcs 'none'"}
		for _, name := range allNames {
			if !slices.Contains(precedence[dest], name) {
				others = append(others, name, name+" 'none'", name+" a", name+" 'nonce-x'", strings.Join(others, ";"))
			}
		}
		for _, policy := range others {
			if len(policy) > api.MaxPolicy {
				continue
			}
			for _, self := range []string{"", "http://me", "https://b"} {
				for _, moved := range []bool{false, true} {
					checkAllows(t, policy, query{dest, "", "http://b/", self, moved}, true)
					checkAllows(t, policy, query{dest, "x", "https://me:81/c", self, moved}, true)
				}
			}
		}
	}
	all := strings.Join(allNames, ";")
	for _, dest := range otherDests {
		checkAllows(t, all, query{dest, "", "http://a/", "http://me", false}, true)
		checkAllows(t, "default-src 'nonce-x' b;script-src 'none'", query{dest, "y", "http://a/", "", true}, true)
	}
}

func TestAllowsOfNoSources(t *testing.T) {
	for dest, names := range precedence {
		for _, name := range names {
			for _, policy := range []string{name, name + " 'none'", name + " bad_", name + ";" + name + " *", strings.Join(allNames, ";"), "object-src *;" + strings.Join(names, ";")} {
				want := dest == api.DestObject && strings.HasPrefix(policy, "object-src *")
				for _, self := range []string{"", "http://a"} {
					for _, moved := range []bool{false, true} {
						checkAllows(t, policy, query{dest, "", "http://a/", self, moved}, want)
						checkAllows(t, policy, query{dest, "x", "https://b/", self, moved}, want)
					}
				}
			}
		}
	}
}

func TestAllowsOfTheChapter(t *testing.T) {
	policy := "default-src 'none'; img-src *"
	for dest := 1; dest <= 10; dest++ {
		checkAllows(t, policy, query{dest, "", "http://a/", "http://me", false}, dest == api.DestImage)
		checkAllows(t, policy, query{dest, "", "https://me:8/x", "", true}, dest == api.DestImage)
	}
}

// TestAllowsWithOrders has one source that matches and one that does not, alone
// and in both orders.
func TestAllowsWithOrders(t *testing.T) {
	for _, one := range []struct {
		to, yes, no string
	}{
		{"http://b/c", "b", "a"}, {"http://b/c", "*", "a"}, {"http://b/c", "http:", "https:"}, {"http://b/c", "b/c", "b/d"}, {"http://b/c", "b:80", "b:81"}, {"http://x.b/c", "*.b", "b"}, {"http://me/c", "'self'", "a"}, {"http://b/c", "b", "'self'"}, {"http://b/c", "b", "'nonce-n'"}, {"http://b/c", "b", "'none'"}, {"https://b/c", "https:", "http://c"},
	} {
		for dest := 1; dest <= 10; dest++ {
			for _, name := range precedence[dest] {
				q := query{dest, "x", one.to, "http://me", false}
				checkAllows(t, name+" "+one.yes, q, true)
				checkAllows(t, name+" "+one.no, q, false)
				checkAllows(t, name+" "+one.yes+" "+one.no, q, true)
				checkAllows(t, name+" "+one.no+" "+one.yes, q, true)
				checkAllows(t, name+" "+one.no+" "+one.no, q, false)
				checkAllows(t, name+" "+one.no+" "+one.yes+" "+one.no, q, true)
				checkAllows(t, name+" "+one.no+" "+one.no+" "+one.no+" "+one.yes, q, true)
				checkAllows(t, name+" "+one.no+";"+name+" "+one.yes, q, false)
				checkAllows(t, name+" "+one.yes+";"+name+" "+one.no, q, true)
			}
		}
	}
}

// TestAllowsByPrecedence has one directive that allows all and others that
// allow nothing, or the other way round.
func TestAllowsByPrecedence(t *testing.T) {
	for dest, names := range precedence {
		for i, name := range names {
			q := query{dest, "", "http://a/", "http://me", false}
			var open, closed []string
			for _, other := range names[i+1:] {
				open, closed = append(open, other+" *"), append(closed, other+" 'none'")
			}
			checkAllows(t, strings.Join(append(closed, name+" *"), ";"), q, true)
			checkAllows(t, strings.Join(append(open, name+" 'none'"), ";"), q, false)
			checkAllows(t, name+" *;"+strings.Join(closed, ";"), q, true)
			checkAllows(t, name+" b;"+strings.Join(open, ";"), q, false)
		}
	}
}

func TestAllowsMoved(t *testing.T) {
	for _, one := range []struct {
		sources, to string
		near, moved bool
	}{
		{"a/b", "http://a/b", true, true}, {"a/b", "http://a/c", false, true}, {"a/b/", "http://a/b/c", true, true}, {"a/b/", "http://a/c/b", false, true}, {"a/b", "http://x/b", false, false}, {"a/b x/c", "http://x/b", false, true}, {"x/c a/b", "http://x/c", true, true},
		{"a", "http://a/c", true, true}, {"b", "http://a/c", false, false}, {"*", "http://a/", true, true}, {"'self'", "http://me/c", true, true}, {"'self'", "http://a/", false, false}, {"http:", "http://a/", true, true}, {"https:", "http://a/", false, false}, {"'nonce-x'", "http://a/", false, false}, {"a:81/b", "http://a/c", false, false}, {"https://a/b", "http://a/c", false, false},
	} {
		for dest := 1; dest <= 10; dest++ {
			for _, name := range precedence[dest] {
				checkAllows(t, name+" "+one.sources, query{dest, "", one.to, "http://me", false}, one.near)
				checkAllows(t, name+" "+one.sources, query{dest, "", one.to, "http://me", true}, one.moved)
			}
		}
	}
}

func TestAllowsOfSelf(t *testing.T) {
	for _, one := range []struct {
		sources, to, self string
		want              bool
	}{
		{"'self'", "http://me/", "http://me", true}, {"'self'", "https://me/", "http://me", true}, {"'self'", "http://me/", "https://me", false}, {"'self'", "http://me:81/", "http://me", false}, {"'self'", "http://me:81/", "http://me:81", true}, {"'self'", "http://a/", "http://me", false},
		{"a", "https://a/", "http://me", true}, {"a", "http://a/", "https://me", false}, {"a", "https://a/", "https://me", true},
		{"'self'", "http://me/", "", false}, {"'self'", "https://me/", "", false}, {"a", "http://a/", "", false}, {"a", "https://a/", "", false}, {"*.a", "http://b.a/", "", false}, {"a:*", "http://a/", "", false},
		{"*", "http://a/", "", true}, {"http:", "http://a/", "", true}, {"http:", "https://a/", "", true}, {"https:", "http://a/", "", false}, {"http://a", "http://a/", "", true}, {"http://a", "https://a/", "", true}, {"https://a", "http://a/", "", false}, {"'self' a https://a", "https://a/", "", true}, {"'self' a https://a", "http://a/", "", false},
	} {
		for dest := 1; dest <= 10; dest++ {
			for _, name := range precedence[dest] {
				checkAllows(t, name+" "+one.sources, query{dest, "", one.to, one.self, false}, one.want)
				checkAllows(t, name+" "+one.sources, query{dest, "x", one.to, one.self, true}, one.want)
			}
		}
		for _, dest := range otherDests {
			checkAllows(t, "default-src "+one.sources, query{dest, "", one.to, one.self, false}, true)
		}
	}
}

func TestAllowsOfNonce(t *testing.T) {
	for dest := 1; dest <= 10; dest++ {
		counts := dest == api.DestScript || dest == api.DestStyle
		for _, name := range precedence[dest] {
			for _, one := range []struct {
				sources, nonce string
				equal          bool
			}{
				{"'nonce-x'", "x", true}, {"'nonce-x'", "X", false}, {"'nonce-X'", "x", false}, {"'NONCE-X'", "X", true}, {"'nonce-x'", "y", false}, {"'nonce-x'", "", false}, {"'nonce-x'", "xx", false}, {"'nonce-xx'", "x", false}, {"'nonce-x'", " x", false}, {"'nonce-x'", "x ", false}, {"'nonce-x'", "'nonce-x'", false}, {"'nonce-x'", "nonce-x", false}, {"'nonce-x'", "x'", false}, {"'nonce-x'", "*", false}, {"'nonce-x'", "\xFF", false}, {"'nonce-x'", "x\x00", false},
				{"'nonce-aB+/_-9='", "aB+/_-9=", true}, {"'nonce-aB+/_-9='", "ab+/_-9=", false}, {"'nonce-aB+/_-9='", "aB+/_-9", false}, {"'nonce-k'", "\u212A", false}, {"'nonce-x=='", "x", false},
				{"'nonce-x' 'nonce-y'", "x", true}, {"'nonce-x' 'nonce-y'", "y", true}, {"'nonce-x' 'nonce-y'", "z", false}, {"'nonce-x' 'nonce-y'", "xy", false}, {"'nonce-x' 'nonce-x'", "x", true},
				{"a 'nonce-x'", "x", true}, {"'nonce-x' a", "x", true}, {"a 'nonce-x' 'self'", "x", true}, {"a 'nonce-x' 'self'", "X", false}, {"'none' 'nonce-x'", "x", true}, {"https: 'nonce-x' bad_", "x", true}, {"a 'nonce-x'", "a", false}, {"x", "x", false}, {"x/x", "x", false}, {"'self'", "'self'", false}, {"https:", "https", false}, {"'nonce-'", "", false}, {"'nonce-", "", false}, {"a", "", false},
			} {
				for _, self := range []string{"", "http://me"} {
					for _, moved := range []bool{false, true} {
						q := query{dest, one.nonce, "http://b/", self, moved}
						checkAllows(t, name+" "+one.sources, q, counts && one.equal)
						// A source that matches is enough for all.
						checkAllows(t, name+" http://b "+one.sources, q, true)
						checkAllows(t, name+" "+one.sources+" http://b", q, true)
						checkAllows(t, name+" http://b/c "+one.sources, q, moved || counts && one.equal)
					}
				}
			}
		}
	}
	for _, dest := range otherDests {
		checkAllows(t, "default-src 'nonce-x'", query{dest, "y", "http://b/", "http://me", false}, true)
	}
}

// TestNonceOfWhatIsFound has nonces in directives that are found, and in others.
func TestNonceOfWhatIsFound(t *testing.T) {
	for _, one := range []struct {
		policy string
		dest   int
		want   bool
	}{
		{"default-src 'nonce-x'", api.DestScript, true}, {"default-src 'nonce-x'", api.DestStyle, true}, {"default-src 'nonce-x'", api.DestImage, false}, {"default-src 'nonce-x'", api.DestWorker, false}, {"default-src 'nonce-x'", api.DestFrame, false},
		{"default-src 'nonce-x'; script-src 'none'", api.DestScript, false}, {"default-src 'nonce-x'; script-src 'none'", api.DestStyle, true}, {"default-src 'nonce-x'; style-src a", api.DestStyle, false}, {"script-src 'nonce-x'; default-src", api.DestScript, true}, {"script-src 'nonce-x'; default-src", api.DestStyle, false}, {"style-src 'nonce-x'; default-src", api.DestStyle, true}, {"style-src 'nonce-x'; default-src", api.DestScript, false},
		{"script-src 'nonce-x'", api.DestWorker, false}, {"child-src 'nonce-x'", api.DestWorker, false}, {"child-src 'nonce-x'", api.DestFrame, false}, {"worker-src 'nonce-x'", api.DestWorker, false}, {"script-src 'nonce-y'; script-src 'nonce-x'", api.DestScript, false}, {"script-src 'nonce-x'; script-src 'nonce-y'", api.DestScript, true},
	} {
		for _, moved := range []bool{false, true} {
			checkAllows(t, one.policy, query{one.dest, "x", "http://b/", "http://me", moved}, one.want)
			checkAllows(t, one.policy, query{one.dest, "x", "https://me/", "", moved}, one.want)
		}
	}
}

// TestAllowsEveryChoice compares all choices with the model.
func TestAllowsEveryChoice(t *testing.T) {
	var lists []string
	words := []string{"'self'", "*.a", "b/x", "https:", "'nonce-n'"}
	for choice := range 1 << len(words) {
		var chosen []string
		for i, word := range words {
			if choice>>i&1 == 1 {
				chosen = append(chosen, word)
			}
		}
		lists = append(lists, strings.Join(chosen, " "))
	}
	count := map[bool]int{}
	for _, sources := range lists {
		for _, name := range []string{"default-src", "script-src", "style-src", "child-src"} {
			p, _ := Parse(name + " " + sources)
			for dest := range 12 {
				for _, to := range []string{"http://me/", "https://me/", "http://b.a/", "http://b/x", "http://b/y", "https://c/"} {
					u, _ := url.Parse(to)
					for _, self := range []api.Origin{{}, {Scheme: "http", Host: "me", Port: 80}, {Scheme: "https", Host: "b", Port: 443}} {
						for _, nonce := range []string{"", "n", "N"} {
							for _, moved := range []bool{false, true} {
								want := plainAllows(p, dest, nonce, u, self, moved)
								if Allows(p, dest, nonce, u, self, moved) != want {
									t.Errorf("Allows of %s %s with %d, %q, %s, %v, %v is not %v", name, sources, dest, nonce, to, self, moved, want)
								}
								count[want]++
							}
						}
					}
				}
			}
		}
	}
	if count[true] < 10000 || count[false] < 10000 {
		t.Errorf("of the results %v of Allows, one is hardly tested", count)
	}
}

// TestAllowsOfAnything only checks that calls end for which nothing is promised.
func TestAllowsOfAnything(t *testing.T) {
	for _, sources := range [][]api.Source{nil, {}, {{}}, {{Kind: 5}}, {{Kind: math.MinInt}, {Kind: 4, Scheme: "\xFF", Host: "*", Port: math.MinInt, Path: "x"}}} {
		for _, name := range []string{"default-src", "Script-src", "", "\xFF"} {
			p := list(api.Directive{Name: name, Sources: sources}, api.Directive{Name: name})
			for _, u := range []api.URL{{}, {Scheme: "ftp", Host: "-", Port: math.MinInt, Path: "\xFF"}, {Scheme: "http", Host: "a", Port: math.MaxInt}} {
				for _, self := range []api.Origin{{}, {Scheme: "ftp"}, {Host: "a", Port: -1}} {
					for _, dest := range append(otherDests, 1, 2, 3) {
						Allows(p, dest, "", u, self, false)
						Allows(p, dest, "\xFF", u, self, true)
					}
				}
			}
		}
	}
}

// spoil writes over all of a list, and over what it has room for.
func spoil(sources []api.Source) {
	sources = sources[:cap(sources)]
	for i := range sources {
		sources[i] = api.Source{Kind: -9, Host: "spoilt"}
	}
}

// TestParseShares has results that are written over, one list after another.
func TestParseShares(t *testing.T) {
	const text = "img-src a b c; font-src d; default-src e f; child-src; media-src g h i j k"
	first, _ := Parse(text)
	second, _ := Parse(text)
	want := copied(first)
	if len(want.Directives) != 5 {
		t.Fatal(show(want))
	}
	for i := range first.Directives {
		spoil(first.Directives[i].Sources)
		for j := i + 1; j < len(first.Directives); j++ {
			if !sameDirective(first.Directives[j], want.Directives[j]) {
				t.Errorf("directive %d is %s after a change of directive %d", j, show(first.Directives[j]), i)
			}
		}
	}
	for i := range first.Directives[:cap(first.Directives)] {
		first.Directives[:cap(first.Directives)][i] = named("spoilt")
	}
	if !samePolicy(second, want) {
		t.Errorf("a change of a result changes another one to %s", show(second))
	}
	checkParse(t, text, want.Directives...)
}

// roomy returns a policy whose lists have spare capacity, which holds texts of
// its own.
func roomy() api.Policy {
	hosts := []string{"a", "b", "room"}
	all := list(named("default-src", hosts...), named("script-src", hosts...), named("script-src", hosts...), named("child-src", hosts...), named("room", hosts...))
	for i := range all.Directives {
		all.Directives[i].Sources = all.Directives[i].Sources[:i%3]
	}
	all.Directives = all.Directives[:4]
	return all
}

// whole returns a policy with its spare capacity.
func whole(p api.Policy) api.Policy {
	p.Directives = slices.Clone(p.Directives[:cap(p.Directives)])
	for i, d := range p.Directives {
		p.Directives[i].Sources = d.Sources[:cap(d.Sources)]
	}
	return copied(p)
}

// TestArgumentsStay checks that arguments are neither changed nor shared.
func TestArgumentsStay(t *testing.T) {
	u, self := api.URL{Scheme: "http", Host: "b", Path: "/"}, api.Origin{Scheme: "http", Host: "b", Port: 80}
	p := roomy()
	want := whole(p)
	for dest := range 12 {
		d, ok := Find(p, dest)
		other, _ := Find(p, dest)
		expected, _ := plainFind(roomy(), dest)
		if ok != (dest > 0 && dest < 11) {
			t.Fatal(dest, show(d))
		}
		spoil(d.Sources)
		if !samePolicy(whole(p), want) {
			t.Fatalf("a change of the result for %d changes the policy to %s", dest, show(whole(p)))
		}
		if !sameDirective(other, expected) {
			t.Errorf("a change of the result for %d changes another one to %s", dest, show(other))
		}
		Allows(p, dest, "x", u, self, false)
		Allows(p, dest, "", u, self, true)
		if !samePolicy(whole(p), want) {
			t.Fatalf("with %d, the policy changes to %s", dest, show(whole(p)))
		}
	}
	// Nor does a result change with the argument that it was taken from.
	d, _ := Find(p, api.DestScript)
	for i := range p.Directives {
		spoil(p.Directives[i].Sources)
		p.Directives[i].Name = "spoilt"
	}
	if !sameDirective(d, named("script-src", "a")) {
		t.Errorf("a change of the policy changes the result to %s", show(d))
	}
}

func pick(r *rand.Rand, texts ...string) string {
	return texts[r.Intn(len(texts))]
}

// randomPolicy returns the text of a policy, with some changes.
func randomPolicy(r *rand.Rand) string {
	var s string
	for range r.Intn(6) {
		s += pick(r, "", "", " ", "\t", ";") + pick(r, cases(pick(r, allNames...))[:3]...)
		for range r.Intn(4) {
			s += pick(r, " ", " ", "  ", "\t", " \t") + pick(r, "'self'", "*", "http:", "https:", "a", "*.a", "b:*", "b/x", "https://c:8/y/", "'nonce-n'", "'nonce-N'", "'none'", "a_")
		}
		s += pick(r, ";", ";", " ;", ";\t")
	}
	for range r.Intn(3) / 2 {
		place := r.Intn(len(s) + 1)
		s = s[:place] + pick(r, "a", ";", " ", "\t", "\n", "-", "S", "\xFF", "") + s[min(len(s), place+r.Intn(2)):]
	}
	return s
}

func TestRandom(t *testing.T) {
	r := rand.New(rand.NewSource(12))
	found, allowed := map[bool]int{}, map[bool]int{}
	for range 30000 {
		p := checkPlain(t, randomPolicy(r))
		dest := r.Intn(12)
		checkFindPlain(t, p, dest)
		u, e := url.Parse(pick(r, "http://", "https://") + pick(r, "a", "b", "b.a", "c", "me") + pick(r, "", "", ":8") + pick(r, "/", "/x", "/y/z"))
		self, e2 := origin.Parse(pick(r, "null", "http://me", "https://a"))
		if e != api.OK || e2 != api.OK {
			t.Fatal("the test has a wrong URL or origin")
		}
		nonce, moved := pick(r, "", "n", "N"), r.Intn(2) == 0
		want := plainAllows(p, dest, nonce, u, self, moved)
		if Allows(p, dest, nonce, u, self, moved) != want {
			t.Errorf("Allows of %s with %d, %q, %s, %v, %v is not %v", show(p), dest, nonce, url.Text(u), self, moved, want)
		}
		_, ok := plainFind(p, dest)
		found[ok]++
		if ok {
			allowed[want]++
		}
	}
	if found[true] < 5000 || found[false] < 5000 || allowed[true] < 2000 || allowed[false] < 2000 {
		t.Errorf("of the results %v and %v, one is hardly tested", found, allowed)
	}
}

func TestNothingIsKept(t *testing.T) {
	for range 3 {
		checkParse(t, "IMG-src a;img-src b", named("img-src", "a"))
		checkOver(t, strings.Repeat(";", 1025))
		checkParse(t, "img-src b", named("img-src", "b"))
		checkFind(t, list(named("default-src", "a")), api.DestImage, named("default-src", "a"))
		checkNoFind(t, list(named("font-src", "a")), api.DestImage)
		checkAllows(t, "script-src 'nonce-x'", query{api.DestScript, "x", "http://a/", "", false}, true)
		checkAllows(t, "script-src 'nonce-y'", query{api.DestScript, "x", "http://a/", "", false}, false)
		checkAllows(t, "img-src a/b", query{api.DestImage, "", "http://a/c", "http://me", true}, true)
		checkAllows(t, "img-src a/b", query{api.DestImage, "", "http://a/c", "http://me", false}, false)
	}
}

// FuzzPolicy takes its policy and what it is asked from texts.
func FuzzPolicy(f *testing.F) {
	f.Add("default-src 'none'; img-src *", 3, "", "http://a/", "http://me", false)
	f.Add("Script-Src\t'nonce-aB='  b/c;;script-src", 1, "aB=", "https://b/d", "null", true)
	f.Add("child-src 'self' bad_; worker-src\nx; sandbox", 8, "", "http://a:8/", "http://a:8", false)
	f.Add(strings.Repeat("; ", 513), 0, "\xFF", "", "", false)
	f.Fuzz(func(t *testing.T, s string, dest int, nonce, to, from string, moved bool) {
		p := checkPlain(t, s)
		checkFindPlain(t, p, dest)
		u, e := url.Parse(to)
		self, e2 := origin.Parse(from)
		if e != api.OK || e2 != api.OK {
			return
		}
		if want := plainAllows(p, dest, nonce, u, self, moved); Allows(p, dest, nonce, u, self, moved) != want {
			t.Errorf("Allows of %.300q with %d, %q, %q, %q, %v is not %v", s, dest, nonce, to, from, moved, want)
		}
	})
}
