package object

// The chapter's words by other means: a byte can stand where some right text goes on so, the library's reader tells what a right text says, regexes tell numbers and UTF-8.

import (
	"encoding/json"
	"fmt"
	"math/rand"
	"regexp"
	"slices"
	"strconv"
	"strings"
	"testing"

	"dragnet/api"
)

// Values that are made by hand.

func null() api.Value { return api.Value{Kind: api.ValNull} }

func digits(s string) api.Value { return api.Value{Kind: api.ValNumber, Text: s} }

func words(s string) api.Value { return api.Value{Kind: api.ValText, Text: s} }

func list(kids ...api.Value) api.Value { return api.Value{Kind: api.ValList, Kids: kids} }

// members is an object: of each name, and of the Kid with its number.
func members(names []string, kids ...api.Value) api.Value {
	return api.Value{Kind: api.ValObject, Names: names, Kids: kids}
}

// nested is a value within so many lists.
func nested(v api.Value, deep int) api.Value {
	for range deep {
		v = list(v)
	}
	return v
}

func times(v api.Value, n int) []api.Value {
	all := make([]api.Value, n)
	for i := range all {
		all[i] = v
	}
	return all
}

// numberedNames is so many names, no two the same.
func numberedNames(n int) []string {
	all := make([]string, n)
	for i := range all {
		all[i] = strconv.Itoa(i)
	}
	return all
}

// Regexes are of characters: here a byte is the character of its number.
func latin(s string) string {
	all := make([]rune, len(s))
	for i := range len(s) {
		all[i] = rune(s[i])
	}
	return string(all)
}

var (
	numberForm = regexp.MustCompile(`\A-?(?:0|[1-9][0-9]*)(?:\.[0-9]+)?(?:[eE][+-]?[0-9]+)?\z`)
	utf8Form   = regexp.MustCompile(`\A(?:[\x00-\x7f]|[\xc2-\xdf][\x80-\xbf]|\xe0[\xa0-\xbf][\x80-\xbf]|[\xe1-\xec\xee\xef][\x80-\xbf]{2}|\xed[\x80-\x9f][\x80-\xbf]|\xf0[\x90-\xbf][\x80-\xbf]{2}|[\xf1-\xf3][\x80-\xbf]{3}|\xf4[\x80-\x8f][\x80-\xbf]{2})*\z`)
	escapeForm = regexp.MustCompile(`(?is)\\(?:u(d[89ab]..\\ud[c-f]..)|u(d[89a-f]..)|.)`)
)

// plainWhole tells whether a text is a JSON text, however deep, whatever its names.
func plainWhole(s string) bool {
	if !json.Valid([]byte(s)) || !utf8Form.MatchString(latin(s)) {
		return false
	}
	for _, m := range escapeForm.FindAllStringSubmatch(s, -1) {
		if m[2] != "" {
			return false // one of two numbers, alone
		}
	}
	return true
}

// plainRests is ways to bring to its end what a text may break off in, up to the end of a value; the text's own brackets are left aside.
var plainRests = func() []string {
	inner := []string{"", "0", "ull", "ll", "l", "rue", "ue", "e", "alse", "lse", "se", `"`, `n"`,
		`0000"`, `000"`, `00"`, `0"`, `00\uDC00"`, `0\uDC00"`, `\uDC00"`, `uDC00"`, `DC00"`, `C00"`,
		"\x80\"", "\x80\x80\"", "\x80\x80\x80\"", "\xa0\x80\"", "\x90\x80\x80\"", `"":0`}
	var all []string
	for _, s := range inner {
		all = append(all, s, s+":0")
	}
	return all
}()

// plainBrackets goes over the brackets that stand outside of texts: those that are open at the end, the last one first, turned round.
func plainBrackets(s string) string {
	open, within := "", false
	for i := 0; i < len(s); i++ {
		switch c := s[i]; {
		case within && c == '\\':
			i++
		case c == '"':
			within = !within
		case within:
		case c == '[':
			open = "]" + open
		case c == '{':
			open = "}" + open
		case (c == ']' || c == '}') && open != "":
			open = open[1:]
		}
	}
	return open
}

// plainGoesOn tells whether some JSON text begins so.
func plainGoesOn(s string) bool {
	closing := plainBrackets(s)
	for _, rest := range plainRests {
		if plainWhole(s + rest + closing) {
			return true
		}
	}
	return false
}

// plainLevel is a list or an object that is open.
type plainLevel struct {
	object bool
	names  []string
}

// plainShows is the first ErrDeep or ErrTwice in a text that goes on, and its place.
func plainShows(s string) (api.Errno, int) {
	var open []plainLevel
	last := byte(0) // the last byte that is no blank, outside of texts
	for i := 0; i < len(s); i++ {
		switch s[i] {
		case ' ', '\t', '\n', '\r':
			continue
		case '[', '{':
			if len(open) == 40 {
				return 84, i
			}
			open = append(open, plainLevel{object: s[i] == '{'})
		case ']', '}':
			open = open[:len(open)-1]
		case '"':
			end := plainTextEnd(s, i)
			if end < 0 {
				return 0, 0
			}
			if len(open) > 0 && open[len(open)-1].object && (last == '{' || last == ',') {
				level, name := &open[len(open)-1], plainMeant(s[i:end])
				if slices.Contains(level.names, name) {
					return 131, i
				}
				level.names = append(level.names, name)
			}
			i = end - 1
		}
		last = s[i]
	}
	return 0, 0
}

// plainTextEnd is the place behind a text, or -1, if it has no end.
func plainTextEnd(s string, from int) int {
	for i := from + 1; i < len(s); i++ {
		if s[i] == '\\' {
			i++
		} else if s[i] == '"' {
			return i + 1
		}
	}
	return -1
}

func plainMeant(quoted string) string {
	var s string
	if json.Unmarshal([]byte(quoted), &s) != nil {
		panic(quoted)
	}
	return s
}

// plainValue is what the library reads in a right text.
func plainValue(d *json.Decoder) api.Value {
	token, err := d.Token()
	if err != nil {
		panic(err)
	}
	switch x := token.(type) {
	case bool:
		if x {
			return api.Value{Kind: 3}
		}
		return api.Value{Kind: 2}
	case json.Number:
		return api.Value{Kind: 4, Text: string(x)}
	case string:
		return api.Value{Kind: 5, Text: x}
	case json.Delim:
		v := api.Value{Kind: 6}
		if x == '{' {
			v.Kind = 7
		}
		for d.More() {
			if x == '{' {
				v.Names = append(v.Names, plainValue(d).Text)
			}
			v.Kids = append(v.Kids, plainValue(d))
		}
		d.Token()
		return v
	}
	return api.Value{Kind: 1}
}

// plainParse is what Parse must answer.
func plainParse(s string) (api.Value, api.Errno, int) {
	if len(s) > 65536 {
		return api.Value{}, 43, 0
	}
	good, bad := 0, len(s)+1 // so many bytes can stand, so many can't
	for good+1 < bad {
		if half := (good + bad) / 2; plainGoesOn(s[:half]) {
			good = half
		} else {
			bad = half
		}
	}
	if e, at := plainShows(s[:good]); e != 0 {
		return api.Value{}, e, at
	}
	if !plainWhole(s) {
		return api.Value{}, 130, good
	}
	d := json.NewDecoder(strings.NewReader(s))
	d.UseNumber()
	return plainValue(d), 0, 0
}

func plainSame(a, b api.Value) bool {
	if a.Kind != b.Kind || a.Text != b.Text || len(a.Names) != len(b.Names) || len(a.Kids) != len(b.Kids) {
		return false
	}
	for i := range a.Names {
		if a.Names[i] != b.Names[i] {
			return false
		}
	}
	for i := range a.Kids {
		if !plainSame(a.Kids[i], b.Kids[i]) {
			return false
		}
	}
	return true
}

// plainPart is a value, and how deep it is if it is a list or an object.
type plainPart struct {
	v    api.Value
	deep int
}

// plainOwn is what is wrong with a value itself.
func plainOwn(p plainPart, ahead int) api.Errno {
	v := p.v
	texts := v.Kind == 4 || v.Kind == 5
	kids := v.Kind == 6 || v.Kind == 7
	seen := map[string]int{}
	wrong := v.Kind == 4 && !numberForm.MatchString(v.Text) || v.Kind == 5 && !utf8Form.MatchString(latin(v.Text))
	twice := false
	for _, name := range v.Names {
		wrong = wrong || !utf8Form.MatchString(latin(name))
		seen[name]++
		twice = twice || seen[name] > 1
	}
	switch {
	case ahead >= 65536:
		return 43
	case kids && p.deep > 40:
		return 84
	case v.Kind < 1 || v.Kind > 7 || !texts && v.Text != "" || !kids && len(v.Kids) > 0 || v.Kind != 7 && len(v.Names) > 0 || v.Kind == 7 && len(v.Names) != len(v.Kids):
		return 87
	case wrong:
		return 130
	case twice:
		return 131
	}
	return 0
}

// plainRight is what Right must answer.
func plainRight(v api.Value) api.Errno {
	waiting := []plainPart{{v, 1}} // the next one last
	for ahead := 0; len(waiting) > 0; ahead++ {
		p := waiting[len(waiting)-1]
		waiting = waiting[:len(waiting)-1]
		if e := plainOwn(p, ahead); e != 0 {
			return e
		}
		for i := len(p.v.Kids) - 1; i >= 0; i-- {
			waiting = append(waiting, plainPart{p.v.Kids[i], p.deep + 1})
		}
	}
	if len(plainPrint(v)) > 65536 {
		return 43
	}
	return 0
}

var plainEscapes = func() *strings.Replacer {
	pairs := []string{`"`, `\"`, `\`, `\\`, "\b", `\b`, "\t", `\t`, "\n", `\n`, "\f", `\f`, "\r", `\r`}
	for c := range 32 {
		hex := strings.ToUpper(strconv.FormatInt(int64(256+c), 16))
		pairs = append(pairs, string(rune(c)), `\u00`+hex[1:])
	}
	return strings.NewReplacer(pairs...)
}()

// plainPrint is what Print must write of a right value.
func plainPrint(v api.Value) string {
	var kids []string
	for i, kid := range v.Kids {
		s := plainPrint(kid)
		if v.Kind == 7 {
			s = plainPrint(words(v.Names[i])) + ":" + s
		}
		kids = append(kids, s)
	}
	inner := strings.Join(kids, ",")
	return []string{"null", "false", "true", v.Text, `"` + plainEscapes.Replace(v.Text) + `"`, "[" + inner + "]", "{" + inner + "}"}[v.Kind-1]
}

// plainLeaf is something that Flat goes over, and the steps that lead to it: numbers are in brackets.
type plainLeaf struct {
	steps   []string
	numbers []bool
	v       api.Value
}

// plainFlat is what Flat must go over in a right value.
func plainFlat(v api.Value) []plainLeaf {
	if v.Kind < 6 {
		return []plainLeaf{{v: v}}
	}
	var all []plainLeaf
	for i, kid := range v.Kids {
		step := "[" + strconv.Itoa(i) + "]"
		if v.Kind == 7 {
			step = v.Names[i]
		}
		for _, x := range plainFlat(kid) {
			x.steps = append([]string{step}, x.steps...)
			x.numbers = append([]bool{v.Kind == 6}, x.numbers...)
			all = append(all, x)
		}
	}
	return all
}

func (x plainLeaf) path() string {
	path := ""
	for i, step := range x.steps {
		if path != "" && !x.numbers[i] {
			path += "."
		}
		path += step
	}
	return path
}

// plain tells whether no name of its path is empty, or holds what paths are made of.
func (x plainLeaf) plain() bool {
	for i, step := range x.steps {
		if !x.numbers[i] && (step == "" || strings.ContainsAny(step, ".[]")) {
			return false
		}
	}
	return true
}

func (x plainLeaf) text() string {
	return []string{"null", "false", "true", x.v.Text, x.v.Text}[x.v.Kind-1]
}

// brief is a value for a message: it need not tell all of it, and must end where a value is within itself.
func brief(v api.Value) string { return briefly(v, 4) }

func briefly(v api.Value, deep int) string {
	s := fmt.Sprintf("{%d %.60q %.60q", v.Kind, v.Text, v.Names[:min(len(v.Names), 5)])
	for _, kid := range v.Kids[:min(len(v.Kids), 5)] {
		if deep > 0 {
			s += " " + briefly(kid, deep-1)
		}
	}
	return s + "}"
}

// holdsParse tells whether Parse answers what it must, and whether what follows from it does.
func holdsParse(t *testing.T, s string) {
	t.Helper()
	v, e, at := Parse(s)
	want, why, place := plainParse(s)
	if e != why || at != place || !plainSame(v, want) {
		t.Fatalf("Parse(%.200q): %s, %v, %d, want %s, %v, %d", s, brief(v), e, at, brief(want), why, place)
	}
	if e == api.OK {
		holdsRead(t, s, v)
	}
}

// holdsRead tells whether 13.7 holds of what was read.
func holdsRead(t *testing.T, s string, v api.Value) {
	t.Helper()
	printed, e := Print(v)
	if Right(v) != api.OK || e != api.OK || len(printed) > len(s) || printed != plainPrint(v) {
		t.Fatalf("of Parse(%.200q): Right %v, Print %.200q, %v", s, Right(v), printed, e)
	}
	again, e, at := Parse(printed)
	if e != api.OK || at != 0 || !plainSame(v, again) || !Same(v, again) {
		t.Fatalf("Parse(%.200q), which was printed: %s, %v, %d", printed, brief(again), e, at)
	}
}

// holdsTree tells whether a value that was made by hand is told to be what it is.
func holdsTree(t *testing.T, v api.Value) {
	t.Helper()
	e := plainRight(v)
	if got := Right(v); got != e {
		t.Fatalf("Right(%s): %v, want %v", brief(v), got, e)
	}
	if e != api.OK {
		holdsWrong(t, v, e)
		return
	}
	if s, got := Print(v); s != plainPrint(v) || got != api.OK {
		t.Fatalf("Print(%s): %.300q, %v", brief(v), s, got)
	}
	if !Same(v, v) {
		t.Fatalf("Same(%s, itself): no", brief(v))
	}
	if got, ok := Get(v, ""); !ok || !plainSame(got, v) {
		t.Fatalf("Get(%s, nothing): %s, %v", brief(v), brief(got), ok)
	}
	holdsRead(t, plainPrint(v), v)
	holdsFlat(t, v)
}

func holdsWrong(t *testing.T, v api.Value, e api.Errno) {
	t.Helper()
	if s, got := Print(v); s != "" || got != e {
		t.Fatalf("Print(%s): %.300q, %v, want %v", brief(v), s, got, e)
	}
	if Same(v, v) || Same(v, null()) || Same(null(), v) {
		t.Fatalf("Same of %s, which is %v: yes", brief(v), e)
	}
	for _, path := range []string{"", "a", "[0]", "b"} {
		if got, ok := Get(v, path); ok || !plainSame(got, api.Value{}) {
			t.Fatalf("Get(%s, %q), which is %v: %s, %v", brief(v), path, e, brief(got), ok)
		}
	}
	for path, text := range Flat(v) {
		t.Fatalf("Flat of %s, which is %v: %q, %q", brief(v), e, path, text)
	}
}

// holdsFlat tells whether Flat goes over what is there, and Get leads to it.
func holdsFlat(t *testing.T, v api.Value) {
	t.Helper()
	want := plainFlat(v)
	at := 0
	for path, text := range Flat(v) {
		if at == len(want) || path != want[at].path() || text != want[at].text() {
			t.Fatalf("Flat(%s): number %d is %q, %q", brief(v), at, path, text)
		}
		if got, ok := Get(v, path); want[at].plain() && (!ok || !plainSame(got, want[at].v)) {
			t.Fatalf("Get(%s, %q), which Flat told: %s, %v", brief(v), path, brief(got), ok)
		}
		at++
	}
	if at != len(want) {
		t.Fatalf("Flat(%s): %d, want %d", brief(v), at, len(want))
	}
}

// Things by chance.

func pick(r *rand.Rand, from ...string) string { return from[r.Intn(len(from))] }

func anyBytes(r *rand.Rand, from string, size int) string {
	b := make([]byte, size)
	for i := range b {
		b[i] = byte(r.Intn(256))
		if from != "" {
			b[i] = from[r.Intn(len(from))]
		}
	}
	return string(b)
}

func blanksBy(r *rand.Rand) string {
	if r.Intn(3) > 0 {
		return ""
	}
	return anyBytes(r, " \t\n\r", r.Intn(3))
}

// textBy is a right text, with all forms of characters in it.
func textBy(r *rand.Rand) string {
	s := `"`
	for range r.Intn(5) {
		s += pick(r, "a", "b", " ", "~", "\x7f", "'", "/", ".", "[", "x", "\u0080", "\u00e9", "\u07ff", "\u0800", "\ud7ff", "\ue000", "\ufffd", "\uffff", "\U00010000", "\U0010ffff",
			`\"`, `\\`, `\/`, `\b`, `\f`, `\n`, `\r`, `\t`, `\u0000`, `\u001f`, `\u0061`, `\u007F`, `\u0080`, `\u00E9`, `\u07ff`, `\u0800`, `\uD7FF`, `\uE000`, `\uffff`, `\uFEFF`, `\uD800\uDC00`, `\ud83d\ude00`, `\uDBFF\uDFFF`)
	}
	return s + `"`
}

func numberBy(r *rand.Rand) string {
	return pick(r, "", "-") + pick(r, "0", "7", "10", "987654321098765432109876543210") + pick(r, "", "", ".0", ".50", ".123") + pick(r, "", "", "e0", "E1", "e+07", "E-9", "e00")
}

// nameBy is a name for one of the members of an object: now and then one that is there already.
func nameBy(r *rand.Rand, i int) string {
	if r.Intn(10) == 0 {
		return pick(r, `"0"`, `"\u0030"`, `"n0"`, textBy(r))
	}
	return `"` + pick(r, "", "", "n", `\u0041`, "\u00e9", ".", "[0]") + strconv.Itoa(i) + `"`
}

// jsonBy is a JSON text, perhaps with a name twice, of at most so many levels.
func jsonBy(r *rand.Rand, deep int) string {
	kind := r.Intn(8)
	if deep == 0 {
		kind = r.Intn(4)
	}
	s := ""
	switch kind {
	case 0:
		s = pick(r, "null", "false", "true")
	case 1, 2:
		s = numberBy(r)
	case 3:
		s = textBy(r)
	default:
		var inner []string
		for i := range r.Intn(4) {
			kid := jsonBy(r, deep-1)
			if kind < 6 {
				kid = blanksBy(r) + nameBy(r, i) + blanksBy(r) + ":" + kid
			}
			inner = append(inner, kid)
		}
		s = strings.Join(inner, ",")
		if inner == nil {
			s = blanksBy(r)
		}
		if kind < 6 {
			s = "{" + s + "}"
		} else {
			s = "[" + s + "]"
		}
	}
	return blanksBy(r) + s + blanksBy(r)
}

// valueBy is a value that was made by hand, now and then with something wrong in it.
func valueBy(r *rand.Rand, deep, wrong int) api.Value {
	v := api.Value{Kind: 1 + r.Intn(7)}
	if deep == 0 {
		v.Kind = 1 + r.Intn(5)
	}
	count := r.Intn(4)
	switch v.Kind {
	case 4:
		v.Text = numberBy(r)
	case 5:
		v.Text = plainMeant(textBy(r))
	case 6:
		count += r.Intn(3)
		fallthrough
	case 7:
		for i := range count {
			v.Kids = append(v.Kids, valueBy(r, deep-1, wrong))
			if v.Kind == 7 {
				v.Names = append(v.Names, pick(r, "", "", "a", ".", "\u00e9", "b[0]")+strconv.Itoa(i))
			}
		}
	}
	if r.Intn(100) < wrong {
		spoil(r, &v)
	}
	return v
}

// spoil changes something in a value, mostly for the worse.
func spoil(r *rand.Rand, v *api.Value) {
	switch r.Intn(12) {
	case 0:
		v.Kind = r.Intn(10) - 1
	case 1:
		v.Text = pick(r, "a", "0", "01", "-", "1.", "\xc3", "\xed\xa0\x80", "\u00e9", "")
	case 2:
		v.Names = append(v.Names, pick(r, "a", "", "\xff"))
	case 3:
		v.Kids = append(v.Kids, null())
	case 4:
		v.Kids = nil
	case 5:
		v.Names = nil
	default:
		if len(v.Names) > 0 {
			v.Names[r.Intn(len(v.Names))] = pick(r, v.Names[0], "\xc0\x80", "x")
		}
	}
}
