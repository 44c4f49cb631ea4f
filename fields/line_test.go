package fields

import (
	"math/rand"
	"slices"
	"strconv"
	"strings"
	"testing"

	"dragnet/api"
)

// pairsOf is pairs of names and values that stand one behind the other.
func pairsOf(texts ...string) []api.Pair {
	var all []api.Pair
	for i := 0; i < len(texts); i += 2 {
		all = append(all, api.Pair{Name: texts[i], Value: texts[i+1]})
	}
	return all
}

// holdsLine holds All and Get against the chapter's words, and tells how many fields there are.
func holdsLine(t *testing.T, line string) int {
	t.Helper()
	want := plainAll(line)
	if got := All(line); !slices.Equal(got, want) {
		t.Fatalf("All(%q): %q, want %q", line, got, want)
	}
	names := []string{"", "a", "=", line}
	for _, p := range want {
		names = append(names, p.Name, p.Name+"x", p.Value)
	}
	for _, name := range names {
		got, ok := Get(line, name)
		if value, is := plainGet(want, name); got != value || ok != is {
			t.Fatalf("Get(%q, %q): %q, %v, want %q, %v", line, name, got, ok, value, is)
		}
	}
	return len(want)
}

func TestAllExamples(t *testing.T) { // 14.1
	for line, want := range map[string][]api.Pair{
		`GET /a?x=1 status=200 took=1.5ms msg="a \"b\" c", ok=`: pairsOf("x", "1", "status", "200", "took", "1.5ms", "msg", `a "b" c`, "ok", ""),
		`{"a":{"b":[1,"x"]}}`: pairsOf("a.b[0]", "1", "a.b[1]", "x"),
		"[1]":                 nil, "a = 1": nil, "=1": nil, "9a=1": nil, "": nil, "a": nil, "a b c": nil, "=": nil, "==": nil, " ": nil,
		`k="un`: pairsOf("k", `"un`), "a=b=c": pairsOf("a", "b=c"), "a==": pairsOf("a", "="), "a=": pairsOf("a", ""),
	} {
		if got := All(line); !slices.Equal(got, want) {
			t.Errorf("All(%q): %q, want %q", line, got, want)
		}
		holdsLine(t, line)
	}
}

func TestAllUnquoted(t *testing.T) { // 14.1
	for line, want := range map[string][]api.Pair{
		"a=1 b=2\tc=3,d=4;e=5":    pairsOf("a", "1", "b", "2", "c", "3", "d", "4", "e", "5"),
		"a= b=\tc=,d=;e=":         pairsOf("a", "", "b", "", "c", "", "d", "", "e", ""),
		"a=1\nb=2\rc=3":           pairsOf("a", "1\nb=2\rc=3"),
		"a=x\"y z":                pairsOf("a", "x\"y"),
		"a=x\"y z\" b=1":          pairsOf("a", "x\"y", "b", "1"),
		"a=\\\"x b=1":             pairsOf("a", "\\\"x", "b", "1"),
		"a='x y' b=(1) c={2}":     pairsOf("a", "'x", "b", "(1)", "c", "{2}"),
		"a=\xff\x00\x80 b=\u00e9": pairsOf("a", "\xff\x00\x80", "b", "\u00e9"),
		"a=1 a=2 a=1":             pairsOf("a", "1", "a", "2", "a", "1"),
		"a=1:b=2":                 pairsOf("a", "1:b=2"),
		"a=1 =2 b=3":              pairsOf("a", "1", "b", "3"),
		"a =1 b= 2":               pairsOf("b", ""),
		"a=b==c":                  pairsOf("a", "b==c"),
		"a!=1 b<=2 c>=3 d~4":      nil,
	} {
		if got := All(line); !slices.Equal(got, want) {
			t.Errorf("All(%q): %q, want %q", line, got, want)
		}
		holdsLine(t, line)
	}
}

func TestAllQuoted(t *testing.T) { // 14.1
	for line, want := range map[string][]api.Pair{
		`a=""`: pairsOf("a", ""), `a="" b=1`: pairsOf("a", "", "b", "1"), `a="x"`: pairsOf("a", "x"), `a="x y,z;` + "\t\n" + `="`: pairsOf("a", "x y,z;\t\n="),
		`a="\""`: pairsOf("a", `"`), `a="\\"`: pairsOf("a", `\`), `a="\\\""`: pairsOf("a", `\"`), `a="\\\\"`: pairsOf("a", `\\`), `a="\q\n\x\u00e9"`: pairsOf("a", `\q\n\x\u00e9`), `a="\q\""`: pairsOf("a", `\q"`), `a="\` + "\xff" + `\ "`: pairsOf("a", `\`+"\xff"+`\ `),
		`a="1"b=2`: pairsOf("a", "1", "b", "2"), `a="1"=b=2`: pairsOf("a", "1", "b", "2"), `a="1""b=2"`: pairsOf("a", "1", "b", `2"`), `a="b=1"`: pairsOf("a", "b=1"), `a="1"9b=2`: pairsOf("a", "1"), `a="1"-b=2 c=3`: pairsOf("a", "1", "c", "3"),
		`a="`: pairsOf("a", `"`), `a="\`: pairsOf("a", `"\`), `a="\"`: pairsOf("a", `"\"`), `a="\\\"`: pairsOf("a", `"\\\"`), `a="x\" b=1 c=\"`: pairsOf("a", `"x\"`, "b", "1", "c", `\"`), `a="un b=1`: pairsOf("a", `"un`, "b", "1"), `a=",b="`: pairsOf("a", ",b="), `a=",b=1`: pairsOf("a", `"`, "b", "1"), `a="x;b="y"`: pairsOf("a", "x;b="),
		`"a=1"`: pairsOf("a", `1"`), `"a"=1`: nil, `\a=1`: pairsOf("a", "1"),
	} {
		if got := All(line); !slices.Equal(got, want) {
			t.Errorf("All(%q): %q, want %q", line, got, want)
		}
		holdsLine(t, line)
	}
}

func TestAllNames(t *testing.T) { // 14.1
	n64 := "n" + strings.Repeat("9", 63)
	for line, want := range map[string][]api.Pair{
		n64 + "=1":                     pairsOf(n64, "1"),
		n64 + "9=1":                    nil,
		n64 + "9=b=1":                  pairsOf("b", "1"),
		"x" + n64 + "=1 " + n64 + "=2": pairsOf(n64, "2"),
		"9a=b=c":                       pairsOf("b", "c"),
		"-a=1 .a=1 [a=1 ]a=1 9=1 _=1":  pairsOf("_", "1"),
		"a.b-c_d[0]=1":                 pairsOf("a.b-c_d[0]", "1"),
		"a]=1 a[=2 a.=3":               pairsOf("a]", "1", "a[", "2", "a.", "3"),
		"/a=1 ?b=2 &c=3":               pairsOf("a", "1", "b", "2", "c", "3"),
		"?a=1&b=2":                     pairsOf("a", "1&b=2"),
		"\u00e9a=1 a\u00e9=2":          pairsOf("a", "1"),
		"(a=1) {b=2}":                  pairsOf("a", "1)", "b", "2}"),
		"A=1 Z=2 a=3 z=4":              pairsOf("A", "1", "Z", "2", "a", "3", "z", "4"),
	} {
		if got := All(line); !slices.Equal(got, want) {
			t.Errorf("All(%q): %q, want %q", line, got, want)
		}
		holdsLine(t, line)
	}
	for b := range 256 { // each byte ahead of a name, within it, behind it, and within a Value
		c := string([]byte{byte(b)})
		for _, line := range []string{c + "=1", c + "a=1", "a" + c + "=1", "a" + c + "b=1", "a=" + c, "a=1" + c + "b=2", "a=1" + c + " b=2", `a="` + c + `" b=2`, `a="\` + c + `" b=2`, "a=1 " + c + "b=2", `a="1"` + c + "b=2"} {
			holdsLine(t, line)
		}
	}
}

func TestAllOfObjects(t *testing.T) { // 14.1
	for line, want := range map[string][]api.Pair{
		`{}`: nil, ` {"a" : 1 } `: pairsOf("a", "1"), "\t\r\n{\"a\":1}\n": pairsOf("a", "1"), `{"a":[],"b":{}}`: nil, `{"a":null,"b":true,"c":false,"d":-1.50e7,"e":"","f":"\u00e9\""}`: pairsOf("a", "null", "b", "true", "c", "false", "d", "-1.50e7", "e", "", "f", "\u00e9\""),
		`{"b":1,"a":2}`: pairsOf("b", "1", "a", "2"), `{"a":[[1],{"b":2}]}`: pairsOf("a[0][0]", "1", "a[1].b", "2"), `{"":1}`: pairsOf("", "1"), `{"a b":1,"9":2,"=":3,"\n":4}`: pairsOf("a b", "1", "9", "2", "=", "3", "\n", "4"), `{"a.b":1,"a":{"b":2}}`: pairsOf("a.b", "1", "a.b", "2"), `{"a":"x=1 y=2"}`: pairsOf("a", "x=1 y=2"),
		`{"` + strings.Repeat("n", 65) + `":1}`: pairsOf(strings.Repeat("n", 65), "1"),
	} {
		if got := All(line); !slices.Equal(got, want) {
			t.Errorf("All(%q): %q, want %q", line, got, want)
		}
		holdsLine(t, line)
	}
}

func TestAllOfNoObjects(t *testing.T) { // 14.1: what object.Parse refuses, or what is no object, is gone through from the front
	deep := strings.Repeat(`{"a":`, 41) + `"x=1"` + strings.Repeat("}", 41)
	long := `{"a":"x=1 ` + strings.Repeat(" ", 65536) + `"}`
	for line, want := range map[string][]api.Pair{
		`{"a":"x=1"`: pairsOf("x", `1"`), `{"a":"x=1"} b=2`: pairsOf("x", `1"}`, "b", "2"), `{"a":"x=1","a":2}`: pairsOf("x", `1"`), `["x=1"]`: pairsOf("x", `1"]`), `[{"a":"x=1"}]`: pairsOf("x", `1"}]`), `"x=1"`: pairsOf("x", `1"`), "1": nil, "null": nil, `{"a":1}{"x=1":2}`: pairsOf("x", `1":2}`), `{"a":01}`: nil, "{a=1}": pairsOf("a", "1}"), "{": nil,
		deep: pairsOf("x", `1"`+strings.Repeat("}", 41)), deep[5 : len(deep)-1]: pairsOf("a"+strings.Repeat(".a", 39), "x=1"),
		long: pairsOf("x", "1"), long[:10] + long[22:]: pairsOf("a", "x=1 "+strings.Repeat(" ", 65524)),
		"\v" + `{"a":"x=1"}`: pairsOf("x", `1"}`), "\xef\xbb\xbf" + `{"a":"x=1"}`: pairsOf("x", `1"}`),
	} {
		if got := All(line); !slices.Equal(got, want) {
			t.Errorf("All(%.60q): %.200q, want %.200q", line, got, want)
		}
	}
}

func TestGet(t *testing.T) { // 14.1, 14.5
	for _, c := range []struct {
		line, name, want string
		is               bool
	}{
		{"a=1 b=2 a=3", "a", "1", true}, {"a=1 b=2 a=3", "b", "2", true}, {"a=1", "b", "", false}, {"a=1", "", "", false}, {"a=1", "A", "", false}, {"a=1", "a=", "", false}, {"ab=1", "a", "", false}, {"ab=1", "b", "", false}, {"a=", "a", "", true}, {"", "a", "", false}, {"", "", "", false}, {"=1", "", "", false},
		{`a="" a=1`, "a", "", true}, {`x="a=1" a=2`, "a", "2", true}, {`{"a":{"b":1}}`, "a.b", "1", true}, {`{"a":{"b":1}}`, "a", "", false}, {`{"a":{"b":1}}`, "b", "", false}, {`{"":1}`, "", "1", true}, {`{"a b":""}`, "a b", "", true}, {`{"a.b":1,"a":{"b":2}}`, "a.b", "1", true}, {`{"a":{"b":2},"a.b":1}`, "a.b", "2", true}, {`["a"]`, "[0]", "", false}, {`{"a":[1,2]}`, "a[1]", "2", true},
		{"9a=1", "9a", "", false}, {"9a=1", "a", "", false}, {strings.Repeat("n", 65) + "=1", strings.Repeat("n", 65), "", false},
	} {
		if got, is := Get(c.line, c.name); got != c.want || is != c.is {
			t.Errorf("Get(%q, %q): %q, %v", c.line, c.name, got, is)
		}
	}
}

func TestName(t *testing.T) { // 14.1
	for s, want := range map[string]bool{"a": true, "_": true, "Z": true, "_x.y-z[0]": true, "a9": true, "a.b": true, "a]": true, "a-": true, "a..": true, "": false, "9a": false, "-a": false, ".a": false, "[a": false, "]": false, "a b": false, " a": false, "a ": false, "a=": false, "\u00e9": false, "a\u00e9": false, "a\x00": false,
		strings.Repeat("n", 64): true, strings.Repeat("n", 65): false, "_" + strings.Repeat("9", 63): true, "_" + strings.Repeat("9", 64): false, strings.Repeat("n", 63) + "=": false, strings.Repeat("n", 1<<20): false} {
		if Name(s) != want {
			t.Errorf("Name(%.80q): not %v", s, want)
		}
	}
	for a := range 256 {
		one := string([]byte{byte(a)})
		for _, s := range []string{one, one + "a", "a" + one, "a" + one + "b", "_" + one, strings.Repeat("n", 63) + one, strings.Repeat("n", 64) + one} {
			if want := nameForm.MatchString(latin(s)); Name(s) != want {
				t.Errorf("Name(%q): not %v", s, want)
			}
		}
	}
}

func TestShortLines(t *testing.T) { // 14.1, 14.5
	found := 0
	for line := range shortTexts([]string{"a", "9", "=", `"`, `\`, " "}, 6) {
		found += holdsLine(t, line)
	}
	for rest := range shortTexts([]string{"a", "=", `"`, `\`, ",", "."}, 5) {
		found += holdsLine(t, `a="`+rest) + holdsLine(t, "a=1;"+rest)
	}
	if found < 20000 {
		t.Errorf("%d fields", found)
	}
}

func TestLinesByChance(t *testing.T) { // 14.1, 14.5
	r := rand.New(rand.NewSource(141))
	pieces := []string{"a=", "b", "status=", "200", "=", `"`, `\"`, `\\`, `\`, " ", "\t", ",", ";", "_", ".", "-", "[", "]", "9", "Z", "x y", "\xff", "\x00", "\n", "/", "{", "}", ":", strings.Repeat("n", 63), "\u00e9", `="`, `" `}
	found := 0
	for range 20000 {
		found += holdsLine(t, anyPieces(r, pieces, r.Intn(25)))
	}
	json := []string{`{"a":`, `{"":`, `{"b":1,"a.b":`, "[", "]", "}", "1", `"x"`, `"x=1 y"`, ",", "null", " ", `,"c":`, "[1,", "{}", "[]"}
	for range 20000 {
		found += holdsLine(t, `{"k":`+anyPieces(r, json, r.Intn(6))+"}")
		found += holdsLine(t, anyPieces(r, json, r.Intn(8)))
	}
	for range 5000 {
		found += holdsLine(t, anyBytes(r, r.Intn(40)))
	}
	if found < 15000 {
		t.Errorf("%d fields", found)
	}
}

func TestLongLines(t *testing.T) { // P1: no way through a line is walked again and again
	const size = 1 << 20
	for _, s := range []string{"n", "=", `"`, `\`, " ", `a="\" `, `a="\`, "a=", "a=,", `a="x`, `a=\"`, "9=", `{"a":`, "{", "[", `a="" `} {
		line := strings.Repeat(s, size/len(s))
		for _, line := range []string{line, `b="` + line, line + "=1", " {" + line + `"`} {
			all := All(line)
			for i, p := range all {
				if len(p.Name) > 64 || i > len(line) {
					t.Fatalf("of %q again and again: field %d is %.80q", s, i, p.Name)
				}
			}
			if _, ok := Get(line, "none"); ok {
				t.Fatalf("of %q again and again: it has a field none", s)
			}
		}
	}
	var line strings.Builder
	for i := range 100000 {
		line.WriteString("k" + strconv.Itoa(i) + `="` + strconv.Itoa(i) + `",`)
	}
	if all := All(line.String()); len(all) != 100000 || all[99999] != (api.Pair{Name: "k99999", Value: "99999"}) {
		t.Errorf("%d fields", len(all))
	}
}

func TestAnswersAreNew(t *testing.T) { // P3, P4
	for _, line := range []string{`first=one second="two" third=`, `{"first":"one","second":["two",3],"third":""}`} {
		a, b := All(line), All(line)
		kept := slices.Clone(b)
		for _, p := range a {
			if isWithin(p.Name, line) || isWithin(p.Value, line) {
				t.Errorf("a field of %q shares memory with the line: %q", line, p)
			}
		}
		for i := range a[:cap(a)] {
			a[:cap(a)][i] = api.Pair{Name: "x", Value: "y"}
		}
		if !slices.Equal(b, kept) || !slices.Equal(All(line), kept) {
			t.Errorf("what All told of %q was written into: %q", line, b)
		}
		if v, ok := Get(line, "first"); v != "one" || !ok || isWithin(v, line) {
			t.Errorf("Get of %q: %q, %v", line, v, ok)
		}
	}
}
