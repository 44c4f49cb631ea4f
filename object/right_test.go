package object

import (
	"math"
	"math/rand"
	"strings"
	"testing"

	"dragnet/api"
)

func TestRightExamples(t *testing.T) { // 13.2
	for _, c := range []struct {
		v    api.Value
		want api.Errno
	}{
		{digits("01"), api.ErrJSON}, {api.Value{Kind: api.ValTrue, Text: "x"}, api.ErrTree}, {api.Value{}, api.ErrTree}, {members([]string{"a", "a"}, null(), null()), api.ErrTwice},
		{null(), api.OK}, {digits("0"), api.OK}, {words(""), api.OK}, {list(), api.OK}, {members(nil), api.OK}, {members([]string{""}, null()), api.OK},
	} {
		if e := Right(c.v); e != c.want {
			t.Errorf("Right(%v): %v, want %v", c.v, e, c.want)
		}
		holdsTree(t, c.v)
	}
}

func TestRightHasWhatItsKindHas(t *testing.T) { // 13.2
	for _, kind := range []int{math.MinInt, -1, 0, 1, 2, 3, 4, 5, 6, 7, 8, 1 << 32, 1<<32 + 1, math.MaxInt} {
		for _, text := range []string{"", "1", "a", "null", "\xff", "\u00e9"} {
			for names := range 4 {
				for kids := range 4 {
					v := api.Value{Kind: kind, Text: text, Names: numberedNames(names), Kids: times(null(), kids)}
					holdsTree(t, v)
					holdsTree(t, list(digits("1"), v))
					holdsTree(t, members([]string{"a"}, v))
				}
			}
		}
	}
	for _, v := range []api.Value{{Kind: 1, Names: []string{}, Kids: []api.Value{}}, {Kind: 4, Text: "1", Names: []string{}, Kids: []api.Value{}}, {Kind: 6, Names: []string{}}, {Kind: 7, Names: []string{}}, {Kind: 7, Kids: []api.Value{}}} { // P5
		if e := Right(v); e != api.OK {
			t.Errorf("Right(%v): %v", v, e)
		}
		holdsTree(t, v)
	}
}

func TestRightNumbers(t *testing.T) { // 13.2
	for _, s := range []string{"0", "-0", "1", "-1", "10", "1.0", "0.00", "1e5", "1E5", "1e+5", "1e-5", "0e0", "1.5e00", "-12.34E-56"} {
		if e := Right(digits(s)); e != api.OK {
			t.Errorf("Right of the number %q: %v", s, e)
		}
	}
	for _, s := range []string{"", "-", "+1", "01", "-01", "00", ".5", "1.", "1.e1", "1e", "1e+", "1e1.5", "1e1e1", "1 ", " 1", "1\n", "0x1", "1_0", "NaN", "Infinity", "null", "1,", "\u0661", "1\x00", "--1", "1-", `"1"`} {
		if e := Right(digits(s)); e != api.ErrJSON {
			t.Errorf("Right of the number %q: %v", s, e)
		}
	}
	letters := "-+.01eE x"
	texts := []string{""}
	for range 5 {
		for _, s := range texts {
			holdsTree(t, digits(s))
			if v := words(s); Right(v) != api.OK {
				t.Errorf("Right of the text %q: %v", s, Right(v))
			}
		}
		var next []string
		for _, s := range texts {
			for i := range len(letters) {
				next = append(next, s+letters[i:i+1])
			}
		}
		texts = next
	}
}

func TestRightTexts(t *testing.T) { // 13.2
	edges := "a\x00\x7f\x80\x8f\x90\x9f\xa0\xbf\xc0\xc1\xc2\xdf\xe0\xe1\xec\xed\xee\xef\xf0\xf1\xf3\xf4\xf5\xff"
	for first := range len(edges) {
		for second := range len(edges) {
			for _, rest := range []string{"", "\x80", "\x7f", "\xbf\x80", "\x80\xc0", "\x80\x80\x80", "\x80\x80\x80\x80"} {
				s := edges[first:first+1] + edges[second:second+1] + rest
				want := api.OK
				if !utf8Form.MatchString(latin(s)) {
					want = api.ErrJSON
				}
				for _, v := range []api.Value{words(s), words("ab" + s), members([]string{s}, null()), members([]string{"a", "b" + s}, null(), null()), list(members([]string{s, "x"}, null(), null()))} {
					if e := Right(v); e != want {
						t.Fatalf("Right(%+v): %v, want %v", v, e, want)
					}
				}
				holdsTree(t, words(s))
			}
		}
	}
}

func TestRightTwice(t *testing.T) { // 13.2
	for _, c := range []struct {
		names []string
		want  api.Errno
	}{
		{[]string{"a", "b", "a"}, api.ErrTwice}, {[]string{"", ""}, api.ErrTwice}, {[]string{"a", "A", "a ", "\u00e9", "e\u0301"}, api.OK}, {[]string{"a", "b", "c", "c"}, api.ErrTwice}, {[]string{"\xff", "\xff"}, api.ErrJSON}, {[]string{"a", "a", "\xff"}, api.ErrJSON},
	} {
		v := members(c.names, times(null(), len(c.names))...)
		for _, v := range []api.Value{v, list(v), list(list(), v)} {
			if e := Right(v); e != c.want {
				t.Errorf("Right(%+v): %v, want %v", v, e, c.want)
			}
			holdsTree(t, v)
		}
	}
	same := members([]string{"a", "b"}, null(), members([]string{"a", "b"}, null(), null()))
	if e := Right(list(same, same)); e != api.OK {
		t.Errorf("the same names in several objects: %v", e)
	}
	names := append(numberedNames(5000), "4999")
	if e := Right(members(names, times(null(), len(names))...)); e != api.ErrTwice {
		t.Errorf("one of 5000 names twice: %v", e)
	}
}

func TestRightDeep(t *testing.T) { // 13.2
	none, twice := api.Value{}, members([]string{"a", "a"}, null(), null())
	inObjects := members(nil)
	for range 39 {
		inObjects = members([]string{"a"}, inObjects)
	}
	for _, c := range []struct {
		name string
		v    api.Value
		want api.Errno
	}{
		{"39 lists", nested(list(), 38), api.OK}, {"40 lists", nested(list(), 39), api.OK}, {"41 lists", nested(list(), 40), api.ErrDeep}, {"100 lists", nested(list(), 99), api.ErrDeep}, {"a number in 40 lists", nested(digits("1"), 40), api.OK}, {"a number in 41 lists", nested(digits("1"), 41), api.ErrDeep},
		{"40 objects", inObjects, api.OK}, {"41 objects", members([]string{"b"}, inObjects), api.ErrDeep}, {"an object in 39 lists", nested(members(nil), 39), api.OK}, {"an object in 40 lists", nested(members(nil), 40), api.ErrDeep},
		{"none in 40 lists", nested(none, 40), api.ErrTree}, {"none in 41 lists", nested(none, 41), api.ErrDeep}, {"a list with names in 40 lists", nested(api.Value{Kind: 6, Text: "x"}, 40), api.ErrDeep}, {"an object with a name twice in 40 lists", nested(twice, 40), api.ErrDeep}, {"such a one in 39", nested(twice, 39), api.ErrTwice}, {"a wrong number in 40 lists", nested(digits("x"), 40), api.ErrJSON},
		{"41 lists ahead of none", list(nested(list(), 39), none), api.ErrDeep}, {"40 lists ahead of none", list(nested(list(), 38), none), api.ErrTree}, {"41 lists behind none", list(none, nested(list(), 40)), api.ErrTree}, {"40 lists side by side", list(nested(list(), 38), nested(list(), 38), inObjects.Kids[0]), api.OK},
	} {
		if e := Right(c.v); e != c.want {
			t.Errorf("Right of %s: %v, want %v", c.name, e, c.want)
		}
		holdsTree(t, c.v)
	}
}

func TestRightFirst(t *testing.T) { // 13.2: the first value in order, not the first error
	none, number, text := api.Value{}, digits("x"), words("\xff")
	twice := members([]string{"a", "a"}, none, number)
	for _, c := range []struct {
		v    api.Value
		want api.Errno
	}{
		{list(none, number), api.ErrTree}, {list(number, none), api.ErrJSON}, {list(list(number), none), api.ErrJSON}, {list(list(list(), list(none)), number), api.ErrTree}, {twice, api.ErrTwice}, {list(twice, none), api.ErrTwice}, {list(none, twice), api.ErrTree}, {list(text, twice), api.ErrJSON},
		{api.Value{Kind: 7, Text: "x", Names: []string{"\xff", "\xff"}, Kids: times(none, 2)}, api.ErrTree}, {api.Value{Kind: 6, Names: []string{"a"}, Kids: []api.Value{number}}, api.ErrTree}, {members([]string{"\xff"}, none), api.ErrJSON}, {members([]string{"a"}, list(members([]string{"b", "b"}, null(), null()), none)), api.ErrTwice},
		{list(words(strings.Repeat("a", 70000)), none), api.ErrTree}, {list(words(strings.Repeat("a", 70000)), number), api.ErrJSON}, {list(words(strings.Repeat("a", 70000)+"\xff"), none), api.ErrJSON}, {list(words(strings.Repeat("a", 70000)), twice), api.ErrTwice}, {list(words(strings.Repeat("a", 70000)), nested(null(), 40)), api.ErrDeep}, {list(words(strings.Repeat("a", 70000)), null()), api.ErrLong},
	} {
		if e := Right(c.v); e != c.want {
			t.Errorf("Right(%s): %v, want %v", brief(c.v), e, c.want)
		}
		holdsTree(t, c.v)
	}
}

func TestRightMany(t *testing.T) { // 13.2
	none := api.Value{}
	wide := func(n int, last ...api.Value) api.Value { return list(append(times(null(), n), last...)...) }
	twice := members([]string{"a", "a"}, null(), null())
	for _, c := range []struct {
		name string
		v    api.Value
		want api.Errno
	}{
		{"none behind 65535 values", wide(65534, none), api.ErrTree}, {"none behind 65536 values", wide(65535, none), api.ErrLong}, {"none behind 65537 values", wide(65536, none), api.ErrLong}, {"65536 values", wide(65535), api.ErrLong}, {"65537 values", wide(65536), api.ErrLong},
		{"a wrong number behind 65535", wide(65534, digits("x")), api.ErrJSON}, {"a wrong number behind 65536", wide(65535, digits("x")), api.ErrLong}, {"a name twice behind 65535", wide(65534, twice), api.ErrTwice}, {"a name twice behind 65536", wide(65535, twice), api.ErrLong}, {"41 deep behind 65535", nested(wide(65495, list()), 39), api.ErrDeep}, {"41 deep behind 65536", nested(wide(65496, list()), 39), api.ErrLong},
		{"none behind 65535 that stand in lists", list(append(times(list(null()), 32767), none)...), api.ErrTree}, {"none behind 65536 that stand in lists", list(append(times(list(null()), 32767), null(), none)...), api.ErrLong},
		{"names twice, and too many values", members(append(numberedNames(70000), "1"), times(null(), 70001)...), api.ErrTwice}, {"a name that is none, and too many values", members(append(numberedNames(70000), "\xff"), times(none, 70001)...), api.ErrJSON}, {"too many values, one of them none", members(numberedNames(70000), append(times(null(), 69999), none)...), api.ErrLong},
		{"too few names, and too many values", members(numberedNames(69999), times(null(), 70000)...), api.ErrTree},
	} {
		if e := Right(c.v); e != c.want {
			t.Errorf("Right of %s: %v, want %v", c.name, e, c.want)
		}
		if e := plainRight(c.v); e != c.want {
			t.Errorf("the words say of %s: %v", c.name, e)
		}
	}
}

func TestRightEnds(t *testing.T) { // P1: values within themselves, and values that stand in very many
	around := make([]api.Value, 3)
	around[0], around[1], around[2] = null(), list(around...), list(around...)
	around[1].Kids, around[2].Kids = around, around
	if e := Right(list(around...)); e != api.ErrDeep {
		t.Errorf("a list within itself: %v", e)
	}
	loop := make([]api.Value, 1)
	loop[0] = members([]string{"a"}, null())
	loop[0].Kids = loop
	if e := Right(loop[0]); e != api.ErrDeep {
		t.Errorf("an object within itself: %v", e)
	}
	holdsWrong(t, loop[0], api.ErrDeep)
	doubled := list()
	for range 39 {
		doubled = list(doubled, doubled)
	}
	if e := Right(doubled); e != api.ErrLong {
		t.Errorf("2 to the 39 lists: %v", e)
	}
	holdsWrong(t, doubled, api.ErrLong)
	many := times(null(), 100)
	for range 38 {
		many = times(list(many...), 100)
	}
	if e := Right(list(many...)); e != api.ErrLong {
		t.Errorf("100 to the 39 values: %v", e)
	}
	long := list(times(words(strings.Repeat("a", 60000)), 60000)...)
	if e := Right(long); e != api.ErrLong {
		t.Errorf("60000 texts of 60000 bytes: %v", e)
	}
	holdsWrong(t, long, api.ErrLong)
}

func TestRightLong(t *testing.T) { // 13.2: what Print would write, to the byte
	fill := func(n int) string { return strings.Repeat("a", n) }
	for _, c := range []struct {
		name string
		of   func(n int) api.Value // it is written as that many bytes
	}{
		{"a number", func(n int) api.Value { return digits(strings.Repeat("1", n)) }},
		{"a text", func(n int) api.Value { return words(fill(n - 2)) }},
		{"a quotation mark", func(n int) api.Value { return words(fill(n-4) + `"`) }},
		{"a backslash", func(n int) api.Value { return words(`\` + fill(n-4)) }},
		{"short escapes", func(n int) api.Value { return words("\b\t\n\f\r" + fill(n-12)) }},
		{"a long escape", func(n int) api.Value { return words(fill(n-8) + "\x00") }},
		{"long escapes", func(n int) api.Value { return words("\x01\x07\x0b\x0e\x1f" + fill(n-32)) }},
		{"bytes as they are", func(n int) api.Value { return words("/\x7f\u00e9\u2028\U0010ffff" + fill(n-13)) }},
		{"a list", func(n int) api.Value { return list(words(fill(n - 4))) }},
		{"a list of two", func(n int) api.Value { return list(words(fill(n-6)), digits("1")) }},
		{"words", func(n int) api.Value {
			return list(null(), api.Value{Kind: 2}, api.Value{Kind: 3}, digits("-1"), list(), members(nil), words(fill(n-29)))
		}},
		{"an object", func(n int) api.Value { return members([]string{"a"}, words(fill(n-8))) }},
		{"an object of two", func(n int) api.Value { return members([]string{"a", "\n"}, words(fill(n-15)), digits("1")) }},
		{"a name", func(n int) api.Value { return members([]string{fill(n - 9)}, null()) }},
		{"a name with an escape", func(n int) api.Value { return members([]string{"\x1f" + fill(n-15)}, null()) }},
		{"40 lists", func(n int) api.Value { return nested(words(fill(n-82)), 40) }},
		{"many kids", func(n int) api.Value { return list(append(times(digits("7"), 32000), words(fill(n-64004)))...) }},
	} {
		for n := 65530; n <= 65540; n++ {
			v := c.of(n)
			want := api.OK
			if n > 65536 {
				want = api.ErrLong
			}
			if len(plainPrint(v)) != n {
				t.Fatalf("%s: %d bytes, not %d", c.name, len(plainPrint(v)), n)
			}
			if e := Right(v); e != want {
				t.Errorf("Right of %s, %d bytes: %v, want %v", c.name, n, e, want)
			}
			s, e := Print(v)
			if e != want || want == api.OK && s != plainPrint(v) || want != api.OK && s != "" {
				t.Errorf("Print of %s, %d bytes: %d bytes, %v, want %v", c.name, n, len(s), e, want)
			}
		}
	}
}

func TestRightByChance(t *testing.T) { // 13.2, 13.3, 13.5, 13.6, 13.7
	r := rand.New(rand.NewSource(132))
	counts := map[api.Errno]int{}
	for range 60000 {
		v := valueBy(r, r.Intn(5), []int{0, 5, 20}[r.Intn(3)])
		holdsTree(t, v)
		counts[Right(v)]++
	}
	for _, e := range []api.Errno{api.OK, api.ErrTree, api.ErrJSON, api.ErrTwice} {
		if counts[e] < 20 {
			t.Errorf("%v: %d times alone", e, counts[e])
		}
	}
}

func TestPrint(t *testing.T) { // 13.3
	for _, c := range []struct {
		v    api.Value
		want string
	}{
		{null(), "null"}, {api.Value{Kind: api.ValFalse}, "false"}, {api.Value{Kind: api.ValTrue}, "true"}, {digits("-0.50e+07"), "-0.50e+07"}, {words(""), `""`}, {words("a b"), `"a b"`}, {list(), "[]"}, {members(nil), "{}"}, {list(null(), list(), words("x")), `[null,[],"x"]`}, {members([]string{"b", "a", ""}, null(), members([]string{"c"}, list()), digits("1")), `{"b":null,"a":{"c":[]},"":1}`},
		{words("\"\\\b\t\n\f\r"), `"\"\\\b\t\n\f\r"`}, {words("\x00\x01\x07\x0b\x0e\x0f\x10\x1a\x1f"), `"\u0000\u0001\u0007\u000B\u000E\u000F\u0010\u001A\u001F"`}, {words("/'<>&~\x7f\u0080\u00e9\u2028\u2029\ufeff\U0010ffff"), "\"/'<>&~\x7f\u0080\u00e9\u2028\u2029\ufeff\U0010ffff\""}, {members([]string{"\"\n\x1b\u00e9"}, null()), "{\"\\\"\\n\\u001B\u00e9\":null}"},
	} {
		if s, e := Print(c.v); s != c.want || e != api.OK {
			t.Errorf("Print(%v): %q, %v, want %q", c.v, s, e, c.want)
		}
	}
	for n := range 0x110000 {
		if n >= 0xD800 && n <= 0xDFFF || n > 0x3000 && n%97 != 0 {
			continue
		}
		v := words("a" + string(rune(n)) + "b")
		s, e := Print(v)
		if again, why, _ := Parse(s); s != plainPrint(v) || e != api.OK || why != api.OK || !plainSame(again, v) {
			t.Fatalf("Print of the character %x: %q, %v", n, s, e)
		}
	}
}

func TestSame(t *testing.T) { // 13.4
	values := []api.Value{null(), {Kind: 2}, {Kind: 3}, digits("1"), digits("1.0"), digits("-0"), digits("0"), words(""), words("1"), words("a"), words("A"), list(), members(nil), list(null()), list(null(), null()), list(list()), list(digits("1"), digits("0")), list(digits("0"), digits("1")), list(words("a")),
		members([]string{"a"}, null()), members([]string{"b"}, null()), members([]string{"a"}, list()), members([]string{"a", "b"}, null(), null()), members([]string{"b", "a"}, null(), null()), members([]string{"a"}, members([]string{"a"}, null())), members([]string{"a"}, members([]string{"b"}, null())), nested(null(), 40), nested(list(), 39)}
	for i, a := range values {
		for j, b := range values {
			if Same(a, copied(b)) != (i == j) {
				t.Errorf("Same(%v, %v): %v", a, b, i != j)
			}
		}
		for _, wrong := range []api.Value{{}, digits("x"), words("\xff"), list(api.Value{}), members([]string{"a", "a"}, null(), null()), nested(null(), 41), words(strings.Repeat("a", 70000))} {
			if Same(a, wrong) || Same(wrong, a) || Same(wrong, wrong) {
				t.Errorf("Same of %s and %s: yes", brief(a), brief(wrong))
			}
		}
	}
	if !Same(api.Value{Kind: 7, Names: []string{}}, api.Value{Kind: 7, Kids: []api.Value{}}) { // P5
		t.Errorf("lists of nothing are not the same")
	}
	r := rand.New(rand.NewSource(134))
	yes := 0
	for range 20000 {
		a, b := valueBy(r, 2, 0), valueBy(r, 2, 0)
		if r.Intn(2) == 0 {
			b = copied(a)
			if len(b.Kids) > 0 && r.Intn(2) == 0 {
				spoil(r, &b.Kids[r.Intn(len(b.Kids))])
			}
		}
		want := plainSame(a, b) && plainRight(a) == api.OK && plainRight(b) == api.OK
		if Same(a, b) != want || Same(b, a) != want {
			t.Fatalf("Same(%v, %v): %v", a, b, !want)
		}
		if want {
			yes++
		}
	}
	if yes < 1000 {
		t.Errorf("%d are the same", yes)
	}
}

func TestNothingIsWritten(t *testing.T) { // P3
	r := rand.New(rand.NewSource(1300))
	for range 500 {
		v := valueBy(r, 4, 3)
		kept := copied(v)
		kids := append(v.Kids, words("behind"))
		v.Kids = kids[:len(kids)-1]
		names := append(v.Names, "behind")
		v.Names = names[:len(names)-1]
		Right(v)
		Print(v)
		Same(v, v)
		Get(v, "")
		for range Flat(v) {
		}
		if !plainSame(v, kept) || kids[len(kids)-1].Text != "behind" || names[len(names)-1] != "behind" {
			t.Fatalf("%v was written into: %v", kept, v)
		}
	}
}
