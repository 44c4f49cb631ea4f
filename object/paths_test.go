package object

import (
	"math/rand"
	"regexp"
	"strconv"
	"strings"
	"testing"

	"dragnet/api"
)

// example is the value of the chapter's last example.
func example(t *testing.T) api.Value {
	v, e, _ := Parse(`{"a":{"b":[10,{"c":"x"}]},"d":[]}`)
	if e != api.OK {
		t.Fatal(e)
	}
	return v
}

func TestGetExamples(t *testing.T) { // 13.5
	v := example(t)
	for path, want := range map[string]api.Value{"": v, "a": v.Kids[0], "a.b": v.Kids[0].Kids[0], "a.b[0]": digits("10"), "a.b[1]": members([]string{"c"}, words("x")), "a.b[1].c": words("x"), "d": list()} {
		if got, ok := Get(v, path); !ok || !plainSame(got, want) {
			t.Errorf("Get(%q): %v, %v, want %v", path, got, ok, want)
		}
	}
	for _, path := range []string{"a.b[2]", "a.b.0", ".a", "a.", "a[0]", "a.b[01]", "a.b[-1]", "a.b[+1]", "a.b[-0]", "a.b[ 1]", "a.b[1 ]", "a.b[]", "a.b[", "a.b[1", "a.b]", "a.b1]", "a.b[1]c", "a.b[1]]", "a.b[1].", "a.b.[1]", "a..b", "a.b[1.0]", "a.b[1e0]", "a.b[0x1]", "a.b[1_0]", "a.b[0][0]", "a.b[1].c.x", "a.b[1].c[0]", "A", "a ", " a", "b", "d[0]", "[0]", "[", "]", ".", "[]", "..", "a.b[\u0661]",
		"a.b[18446744073709551616]", "a.b[18446744073709551617]", "a.b[9223372036854775808]", "a.b[9223372036854775807]", "a.b[4294967296]", "a.b[4294967297]", "a.b[" + strings.Repeat("9", 1000) + "]", "a.b[" + strings.Repeat("0", 1000) + "]", "a.b[0" + strings.Repeat("0", 18) + "1]", "\xff", "a\x00", `"a"`} {
		if got, ok := Get(v, path); ok || !plainSame(got, api.Value{}) {
			t.Errorf("Get(%.60q): %v, %v", path, got, ok)
		}
	}
}

func TestGetNames(t *testing.T) { // 13.5
	names := []string{"", ".", "a.b", "a", "[0]", "a[0]", "]", "\u00e9", " ", "0", "\"", "\x00", "a]", strings.Repeat("n", 300), "A"}
	var kids []api.Value
	for i := range names {
		kids = append(kids, digits(strconv.Itoa(i)))
	}
	v := members(names, kids...)
	for i, name := range names {
		want := name != "" && !strings.ContainsAny(name, ".[]")
		got, ok := Get(v, name)
		if want && (!ok || !plainSame(got, kids[i])) || !want && (ok && name != "" || got.Kind == api.ValNumber) {
			t.Errorf("Get(%q): %v, %v", name, got, ok)
		}
	}
	if got, ok := Get(v, "[4]"); ok {
		t.Errorf("a number in an object: %v", got)
	}
	if got, ok := Get(list(v), "[0].0"); !ok || got.Text != "9" {
		t.Errorf("a name of digits: %v, %v", got, ok)
	}
	if got, ok := Get(list(v), "0"); ok {
		t.Errorf("a name in a list: %v", got)
	}
	for _, v := range []api.Value{null(), {Kind: 2}, {Kind: 3}, digits("1"), words("a")} {
		for _, path := range []string{"a", "[0]", "null", "1"} {
			if got, ok := Get(v, path); ok || !plainSame(got, api.Value{}) {
				t.Errorf("Get(%v, %q): %v, %v", v, path, got, ok)
			}
		}
	}
}

func TestGetNumbers(t *testing.T) { // 13.5
	kids := make([]api.Value, 1200)
	for i := range kids {
		kids[i] = digits(strconv.Itoa(i))
	}
	v := list(list(), list(kids...))
	for i := range 2000 {
		got, ok := Get(v, "[1]["+strconv.Itoa(i)+"]")
		if i < len(kids) && (!ok || got.Text != strconv.Itoa(i)) || i >= len(kids) && (ok || got.Kind != 0) {
			t.Fatalf("Get of number %d: %v, %v", i, got, ok)
		}
		for _, other := range []string{"0", "+", "-", " ", "00"} {
			if got, ok := Get(v, "[1]["+other+strconv.Itoa(i)+"]"); ok || got.Kind != 0 {
				t.Fatalf("Get of number %s%d: %v, %v", other, i, got, ok)
			}
		}
	}
	deep := nested(words("x"), 40)
	for n := range 42 {
		if got, ok := Get(deep, strings.Repeat("[0]", n)); ok != (n <= 40) || ok && !plainSame(got, nested(words("x"), 40-n)) {
			t.Errorf("Get by %d steps: %v, %v", n, got, ok)
		}
	}
}

var (
	pathForm = regexp.MustCompile(`(?s)\A(?:(?:[^.\[\]]+|\[(?:0|[1-9][0-9]*)\])(?:\.[^.\[\]]+|\[(?:0|[1-9][0-9]*)\])*)?\z`)
	stepForm = regexp.MustCompile(`(?s)\[[0-9]*\]|[^.\[\]]+`)
)

// plainGet is what Get must answer of a right value.
func plainGet(v api.Value, path string) (api.Value, bool) {
	if !pathForm.MatchString(latin(path)) {
		return api.Value{}, false
	}
	for _, step := range stepForm.FindAllString(latin(path), -1) {
		found := false
		for i, kid := range v.Kids {
			if v.Kind == 6 && step == "["+strconv.Itoa(i)+"]" || v.Kind == 7 && step[0] != '[' && step == latin(v.Names[i]) {
				v, found = kid, true
				break
			}
		}
		if !found {
			return api.Value{}, false
		}
	}
	return v, true
}

func holdsGet(t *testing.T, v api.Value, path string) bool {
	t.Helper()
	got, ok := Get(v, path)
	if want, found := plainGet(v, path); ok != found || !plainSame(got, want) {
		t.Fatalf("Get(%s, %q): %s, %v, want %s, %v", brief(v), path, brief(got), ok, brief(want), found)
	}
	return ok
}

func TestGetAllShort(t *testing.T) { // 13.5
	var values []api.Value
	for _, s := range []string{`{"a":{"a":[1,[2,{"a":3}]],"0":4,"aa":5},"0":[6],"1":{"a":7},"":8,".":9,"a.a":10,"[0]":11}`, `[[1,{"a":[2]}],{"a":{"a":3},"0":[4]},5]`, `"a"`} {
		v, e, _ := Parse(s)
		if e != api.OK {
			t.Fatalf("Parse(%q): %v", s, e)
		}
		values = append(values, v)
	}
	paths, found := []string{""}, 0
	for range 7 {
		var next []string
		for _, path := range paths {
			for _, v := range values {
				if holdsGet(t, v, path) {
					found++
				}
			}
			for _, b := range []string{"a", ".", "[", "]", "0", "1"} {
				next = append(next, path+b)
			}
		}
		paths = next
	}
	if found < 15 {
		t.Errorf("%d paths lead somewhere", found)
	}
}

func TestGetByChance(t *testing.T) { // 13.5
	r := rand.New(rand.NewSource(135))
	found := 0
	for range 3000 {
		v := valueBy(r, 4, 0)
		if Right(v) != api.OK {
			continue
		}
		for _, x := range plainFlat(v) {
			path := x.path()
			at := r.Intn(len(path) + 1)
			for _, path := range []string{path, path[:at], path[at:], path[:at] + anyBytes(r, ".[]0a1", 1) + path[at:], path + "." + path} {
				if holdsGet(t, v, path) {
					found++
				}
			}
		}
	}
	if found < 1000 {
		t.Errorf("%d paths lead somewhere", found)
	}
}

func TestGetIsNew(t *testing.T) { // P3
	v := example(t)
	want := copied(v)
	for _, path := range []string{"", "a", "a.b", "a.b[1]", "d"} {
		got, _ := Get(v, path)
		again, _ := Get(v, path)
		kept := copied(got)
		scribble(&got)
		if !plainSame(v, want) || !plainSame(again, kept) {
			t.Fatalf("what Get(%q) told was written into: %v, %v", path, v, again)
		}
	}
	got, _ := Get(v, "a")
	kept := copied(got)
	scribble(&v)
	if !plainSame(got, kept) {
		t.Errorf("the value was written into: Get told %v", got)
	}
}

// flat is all that an iterator goes over, one behind the other.
func flat(v api.Value) []string {
	var all []string
	for path, text := range Flat(v) {
		all = append(all, path, text)
	}
	return all
}

func TestFlat(t *testing.T) { // 13.6
	for s, want := range map[string]string{
		`{"a":{"b":[10,{"c":"x"}]},"d":[]}`: "a.b[0]|10|a.b[1].c|x", "null": "|null", "false": "|false", "true": "|true", "-1.50e7": "|-1.50e7", `"a"`: "|a", `""`: "|", "[]": "", "{}": "", "[[],{},[{}]]": "",
		`[null,false,true,1,"x"]`: "[0]|null|[1]|false|[2]|true|[3]|1|[4]|x", "[[1],[[2]]]": "[0][0]|1|[1][0][0]|2", `{"b":1,"a":2}`: "b|1|a|2", `[{"a":1},{"a":2}]`: "[0].a|1|[1].a|2", `{"a":[1,2],"b":{"c":{"d":3}}}`: "a[0]|1|a[1]|2|b.c.d|3",
		`{"":1}`: "|1", `{"":{"":{"":1}}}`: "|1", `{"":{"a":1}}`: "a|1", `{"a":{"":1}}`: "a.|1", `{"a":{"":{"b":1}}}`: "a..b|1", `{"":[1]}`: "[0]|1", `{"a":{"":[1]}}`: "a.[0]|1", `[{"":1}]`: "[0].|1", `{".":{"a.b":{"[0]":1}}}`: "..a.b.[0]|1", `{"\u00e9\n":"\t\""}`: "\u00e9\n|\t\"", `{"a":1,"b":"","c":null,"d":"null"}`: "a|1|b||c|null|d|null",
		"[" + strings.Repeat("0,", 10) + `"ten",11]`: "[0]|0|[1]|0|[2]|0|[3]|0|[4]|0|[5]|0|[6]|0|[7]|0|[8]|0|[9]|0|[10]|ten|[11]|11",
	} {
		v, e, _ := Parse(s)
		if got := strings.Join(flat(v), "|"); e != api.OK || got != want {
			t.Errorf("Flat of %s: %q, want %q", s, got, want)
		}
		holdsFlat(t, v)
	}
	for _, v := range []api.Value{{}, digits("01"), list(null(), api.Value{}), members([]string{"a", "a"}, null(), null()), nested(null(), 41), list(words(strings.Repeat("a", 65536)))} {
		if all := flat(v); all != nil {
			t.Errorf("Flat of %s, which is %v: %q", brief(v), Right(v), all)
		}
	}
}

func TestFlatIsOfTheCall(t *testing.T) { // 13.6
	v := example(t)
	all := Flat(v)
	scribble(&v.Kids[0])
	v.Names[0] = "\xff"
	v.Kids[1] = api.Value{}
	got := ""
	for path, text := range all {
		got += path + " " + text + ", "
		scribble(&v.Kids[1])
	}
	if got != "a.b[0] 10, a.b[1].c x, " {
		t.Errorf("what was there at the call: %q", got)
	}
	wrong := list(api.Value{}, null())
	all = Flat(wrong)
	wrong.Kids[0] = null()
	for path, text := range all {
		t.Errorf("of a value that was not right at the call: %q, %q", path, text)
	}
}

func TestFlatIsLeftAndGoneOverAgain(t *testing.T) { // P3
	v, _, _ := Parse(`{"a":[1,{"b":2},[3,[4]]],"c":5,"d":{"e":6}}`)
	want := flat(v)
	all := Flat(v)
	for most := range len(want) / 2 {
		var got []string
		for path, text := range all {
			if len(got) == 2*most {
				break
			}
			got = append(got, path, text)
			inner := 0
			for path, text := range all {
				if path != want[inner] || text != want[inner+1] {
					t.Fatalf("within itself: %q, %q", path, text)
				}
				inner += 2
			}
			if inner != len(want) {
				t.Fatalf("within itself: %d", inner)
			}
			Get(v, path)
			Flat(v)
		}
		if strings.Join(got, "|") != strings.Join(want[:2*most], "|") {
			t.Fatalf("left behind %d: %q", most, got)
		}
	}
	if again := flat(v); strings.Join(again, "|") != strings.Join(want, "|") {
		t.Errorf("again: %q", again)
	}
}

func TestFlatLongPaths(t *testing.T) { // 13.6: a long name ahead of many values
	name := strings.Repeat("n", 20000)
	v := members([]string{name}, list(times(digits("7"), 20000)...))
	count := 0
	for path, text := range Flat(v) {
		if path != name+"["+strconv.Itoa(count)+"]" || text != "7" {
			t.Fatalf("number %d: %.20q.., %q", count, path, text)
		}
		count++
	}
	if count != 20000 {
		t.Errorf("%d values", count)
	}
}
