package syntax

import (
	"cmp"
	"fmt"
	"math/big"
	"math/rand"
	"regexp"
	"slices"
	"strconv"
	"strings"
	"testing"

	"dragnet/api"
)

// The plain forms here do the chapter's words one by one: a text is cut to tokens, all its errors are put together and the least is told; a tree's parts are put in a list, each with its way from the tree, and are counted without a bound.

func set(bytes ...int) api.Set {
	var s api.Set
	for _, b := range bytes {
		s[b/64] |= 1 << (b % 64)
	}
	return s
}

func setWhere(wanted func(b int) bool) api.Set {
	var bytes []int
	for b := range 256 {
		if wanted(b) {
			bytes = append(bytes, b)
		}
	}
	return set(bytes...)
}

func setOf(text string) api.Set {
	return setWhere(func(b int) bool { return strings.IndexByte(text, byte(b)) >= 0 })
}

func bytesOf(s api.Set) []int {
	var bytes []int
	for b := range 256 {
		if s[b/64]/(1<<(b%64))%2 == 1 {
			bytes = append(bytes, b)
		}
	}
	return bytes
}

// Short names of parts.
var (
	empty = api.Regex{Kind: api.RxEmpty}
	begin = api.Regex{Kind: api.RxBegin}
	end   = api.Regex{Kind: api.RxEnd}
)

func one(b byte) api.Regex            { return api.Regex{Kind: api.RxSet, Set: set(int(b))} }
func anyOf(s api.Set) api.Regex       { return api.Regex{Kind: api.RxSet, Set: s} }
func cat(kids ...api.Regex) api.Regex { return api.Regex{Kind: api.RxCat, Kids: kids} }
func alt(kids ...api.Regex) api.Regex { return api.Regex{Kind: api.RxAlt, Kids: kids} }
func rep(kid api.Regex, low, high int) api.Regex {
	return api.Regex{Kind: api.RxRep, Kids: []api.Regex{kid}, Min: low, Max: high}
}

func times(part api.Regex, n int) []api.Regex { return slices.Repeat([]api.Regex{part}, n) }

func plainSame(a, b api.Regex) bool {
	if a.Kind != b.Kind || a.Set != b.Set || a.Min != b.Min || a.Max != b.Max || len(a.Kids) != len(b.Kids) {
		return false
	}
	for k := range a.Kids {
		if !plainSame(a.Kids[k], b.Kids[k]) {
			return false
		}
	}
	return true
}

// trouble is an error of a text: its place, and how early the promise names it.
type trouble struct {
	at, named int
	code      api.Errno
}

func troubleOf(at int, code api.Errno) trouble {
	order := []api.Errno{api.ErrParen, api.ErrDeep, api.ErrClass, api.ErrEscape, api.ErrRepeat, api.ErrAnchor}
	return trouble{at, slices.Index(order, code), code}
}

// token is a piece of a text: `x` is a set, `n` a sign of repeating, all else is its own byte.
type token struct {
	kind     byte
	at       int
	set      api.Set
	min, max int
}

var (
	singleForm  = regexp.MustCompile("^\\\\(?:[ntr]|x[0-9A-Fa-f][0-9A-Fa-f]|[ -/:-@\\[-`{-~])")
	severalForm = regexp.MustCompile(`^\\[dwsDWS]`)
	countForm   = regexp.MustCompile(`^\{(0|[1-9][0-9]*)(?:(,)(0|[1-9][0-9]*)?)?\}`)
)

// plainPiece is a byte or an escape at the head of a text: how long it is (0: it is a wrong escape), its bytes, and whether it is single.
func plainPiece(text string) (int, []int, bool) {
	if text[0] != '\\' {
		return 1, []int{int(text[0])}, true
	}
	if form := singleForm.FindString(text); form != "" {
		if len(form) == 4 {
			n, _ := strconv.ParseUint(form[2:], 16, 8)
			return 4, []int{int(n)}, true
		}
		if k := strings.IndexByte("ntr", form[1]); k >= 0 {
			return 2, []int{[]int{10, 9, 13}[k]}, true
		}
		return 2, []int{int(form[1])}, true
	}
	if form := severalForm.FindString(text); form != "" {
		named := map[string]string{"d": "0123456789", "w": "0123456789ABCDEFGHIJKLMNOPQRSTUVWXYZ_abcdefghijklmnopqrstuvwxyz", "s": "\t\n\v\f\r "}[strings.ToLower(form[1:])]
		capital := form[1] < 'a'
		return 2, bytesOf(setWhere(func(b int) bool { return strings.IndexByte(named, byte(b)) < 0 == capital })), false
	}
	return 0, nil, false
}

// plainClass is a class at the head of a text: how long it is and its set, or its error.
func plainClass(text string) (int, api.Set, *trouble) {
	wrong := func(at int, code api.Errno) (int, api.Set, *trouble) {
		t := troubleOf(at, code)
		return 0, api.Set{}, &t
	}
	at, not := 1, strings.HasPrefix(text, "[^")
	if not {
		at = 2
	}
	var bytes []int
	for first := true; ; first = false {
		if at >= len(text) {
			return wrong(len(text), api.ErrClass)
		}
		if text[at] == ']' && first {
			return wrong(at, api.ErrClass)
		}
		if text[at] == ']' {
			break
		}
		n, got, single := plainPiece(text[at:])
		if n == 0 {
			return wrong(at, api.ErrEscape)
		}
		at += n
		if rest := text[at:]; single && len(rest) >= 2 && rest[0] == '-' && rest[1] != ']' {
			n, last, single := plainPiece(rest[1:])
			if n == 0 {
				return wrong(at+1, api.ErrEscape)
			}
			if !single || last[0] < got[0] {
				return wrong(at+1, api.ErrClass)
			}
			for b := got[0] + 1; b <= last[0]; b++ {
				got = append(got, b)
			}
			at += 1 + n
		}
		bytes = append(bytes, got...)
	}
	return at + 1, setWhere(func(b int) bool { return slices.Contains(bytes, b) != not }), nil
}

// plainSign is a sign of repeating at the head of a text: how long it is (0: it is none of the forms), and its counts.
func plainSign(text string) (int, int, int) {
	switch text[0] {
	case '*':
		return 1, 0, -1
	case '+':
		return 1, 1, -1
	case '?':
		return 1, 0, 1
	}
	form := countForm.FindStringSubmatch(text)
	if form == nil {
		return 0, 0, 0
	}
	low, e := strconv.Atoi(form[1])
	if e != nil || low > 255 {
		return 0, 0, 0
	}
	if form[2] == "" {
		return len(form[0]), low, low
	}
	if form[3] == "" {
		return len(form[0]), low, -1
	}
	high, e := strconv.Atoi(form[3])
	if e != nil || high > 255 || high < low {
		return 0, 0, 0
	}
	return len(form[0]), low, high
}

// plainCut cuts a text to tokens, up to its end or the first piece that is none.
func plainCut(text string) ([]token, []trouble) {
	var list []token
	for at := 0; at < len(text); {
		t, n := token{kind: text[at], at: at}, 1
		switch text[at] {
		case '(', ')', '|', '^', '$':
		case '*', '+', '?', '{':
			t.kind = 'n'
			if n, t.min, t.max = plainSign(text[at:]); n == 0 {
				return list, []trouble{troubleOf(at, api.ErrRepeat)}
			}
		case '[':
			t.kind = 'x'
			var wrong *trouble
			if n, t.set, wrong = plainClass(text[at:]); wrong != nil {
				return list, []trouble{troubleOf(at+wrong.at, wrong.code)}
			}
		case '.':
			t.kind, t.set = 'x', setWhere(func(int) bool { return true })
		default:
			t.kind = 'x'
			var bytes []int
			if n, bytes, _ = plainPiece(text[at:]); n == 0 {
				return list, []trouble{troubleOf(at, api.ErrEscape)}
			}
			t.set = set(bytes...)
		}
		list = append(list, t)
		at += n
	}
	return list, nil
}

// plainTroubles is all that is wrong in a text.
func plainTroubles(text string, list []token, troubles []trouble) []trouble {
	open := 0
	for k, t := range list {
		ahead := byte('|')
		if k > 0 {
			ahead = list[k-1].kind
		}
		switch t.kind {
		case '(':
			if open >= 40 {
				troubles = append(troubles, troubleOf(t.at, api.ErrDeep))
			}
			open++
		case ')':
			if open == 0 {
				return append(troubles, troubleOf(t.at, api.ErrParen))
			}
			open--
		case 'n':
			if strings.IndexByte("|(^$n", ahead) >= 0 {
				troubles = append(troubles, troubleOf(t.at, api.ErrRepeat))
			}
		case '^':
			if open > 0 || ahead != '|' {
				troubles = append(troubles, troubleOf(t.at, api.ErrAnchor))
			}
		case '$':
			if behind := text[t.at+1:]; open > 0 || behind != "" && behind[0] != '|' {
				troubles = append(troubles, troubleOf(t.at, api.ErrAnchor))
			}
		}
	}
	if open > 0 {
		troubles = append(troubles, troubleOf(len(text), api.ErrParen))
	}
	return troubles
}

// plainTree is the tree of tokens that are right.
func plainTree(list []token) api.Regex {
	var alternatives []api.Regex
	depth, from := 0, 0
	for k, t := range append(slices.Clone(list), token{kind: '|'}) {
		switch {
		case t.kind == '(':
			depth++
		case t.kind == ')':
			depth--
		case t.kind == '|' && depth == 0:
			alternatives = append(alternatives, plainAlternative(list[from:k]))
			from = k + 1
		}
	}
	if len(alternatives) == 1 {
		return alternatives[0]
	}
	return alt(alternatives...)
}

func plainAlternative(list []token) api.Regex {
	var things []api.Regex
	for k := 0; k < len(list); k++ {
		switch list[k].kind {
		case '(':
			from := k + 1
			for depth := 1; depth > 0; {
				k++
				depth += map[byte]int{'(': 1, ')': -1}[list[k].kind]
			}
			things = append(things, plainTree(list[from:k]))
		case '^':
			things = append(things, begin)
		case '$':
			things = append(things, end)
		case 'x':
			things = append(things, anyOf(list[k].set))
		case 'n':
			last := len(things) - 1
			things[last] = rep(things[last], list[k].min, list[k].max)
		}
	}
	switch len(things) {
	case 0:
		return empty
	case 1:
		return things[0]
	}
	return cat(things...)
}

func plainParse(text string) (api.Regex, api.Errno, int) {
	if len(text) > 1024 {
		return api.Regex{}, api.ErrLong, 0
	}
	list, troubles := plainCut(text)
	if troubles = plainTroubles(text, list, troubles); len(troubles) > 0 {
		least := slices.MinFunc(troubles, func(a, b trouble) int {
			return cmp.Or(cmp.Compare(a.at, b.at), cmp.Compare(a.named, b.named))
		})
		return api.Regex{}, least.code, least.at
	}
	r := plainTree(list)
	if e := plainRight(r); e != api.OK {
		return api.Regex{}, e, 0
	}
	return r, api.OK, 0
}

// placed is a part with the numbers of the Kids that lead to it.
type placed struct {
	part api.Regex
	way  []int
}

// plainParts is the parts of a tree in order, so many at most.
func plainParts(r api.Regex, most int) []placed {
	var list []placed
	waiting := []placed{{r, nil}}
	for len(waiting) > 0 && len(list) < most {
		p := waiting[0]
		list = append(list, p)
		var kids []placed
		if len(p.way) < 60 {
			for k, kid := range p.part.Kids {
				kids = append(kids, placed{kid, append(slices.Clone(p.way), k)})
			}
		}
		waiting = append(kids, waiting[1:]...)
	}
	return list
}

func follow(r api.Regex, way []int) api.Regex {
	for _, k := range way {
		r = r.Kids[k]
	}
	return r
}

// plainOutermost tells whether what a way leads to is an outermost alternative.
func plainOutermost(r api.Regex, way []int) bool {
	if r.Kind != api.RxAlt {
		return len(way) == 0
	}
	return len(way) == 1 && follow(r, way).Kind != api.RxAlt
}

func plainMayStand(r api.Regex, way []int, anchor int) bool {
	if plainOutermost(r, way) {
		return true
	}
	if len(way) == 0 {
		return false
	}
	above := way[:len(way)-1]
	parent := follow(r, above)
	edge := 0
	if anchor == api.RxEnd {
		edge = len(parent.Kids) - 1
	}
	return plainOutermost(r, above) && parent.Kind == api.RxCat && way[len(way)-1] == edge
}

func plainIsPart(r api.Regex) bool {
	nothing := len(bytesOf(r.Set)) == 0
	switch r.Kind {
	case 1, 3, 4:
		return len(r.Kids) == 0 && nothing && r.Min == 0 && r.Max == 0
	case 2:
		return len(r.Kids) == 0 && r.Min == 0 && r.Max == 0
	case 5, 6:
		return len(r.Kids) > 1 && nothing && r.Min == 0 && r.Max == 0
	case 7:
		return len(r.Kids) == 1 && nothing && r.Min >= 0 && r.Min <= 255 && (r.Max == -1 || r.Max >= r.Min && r.Max <= 255)
	}
	return false
}

// plainCount counts leaves, or sets alone, without a bound.
func plainCount(r api.Regex, sets bool) *big.Int {
	n := new(big.Int)
	switch {
	case r.Kind == api.RxCat || r.Kind == api.RxAlt:
		for _, kid := range r.Kids {
			n.Add(n, plainCount(kid, sets))
		}
		return n
	case r.Kind == api.RxRep && r.Max != 0:
		times := r.Max
		if times == -1 {
			times = max(r.Min, 1)
		}
		return n.Mul(big.NewInt(int64(times)), plainCount(r.Kids[0], sets))
	case r.Kind == api.RxSet || !sets:
		return n.SetInt64(1)
	}
	return n
}

func plainRight(r api.Regex) api.Errno {
	for ahead, p := range plainParts(r, 2001) {
		switch {
		case !plainIsPart(p.part):
			return api.ErrTree
		case len(p.way)+1 > 40:
			return api.ErrDeep
		case (p.part.Kind == api.RxBegin || p.part.Kind == api.RxEnd) && !plainMayStand(r, p.way, p.part.Kind):
			return api.ErrAnchor
		case ahead >= 2000:
			return api.ErrMany
		}
	}
	if plainCount(r, false).Cmp(big.NewInt(2000)) > 0 || plainCount(r, true).Cmp(big.NewInt(500)) > 0 {
		return api.ErrMany
	}
	return api.OK
}

func plainWritten(b int, marked string) string {
	switch {
	case b >= 32 && b <= 126 && strings.Contains(marked, string(rune(b))):
		return `\` + string(rune(b))
	case b >= 32 && b <= 126:
		return string(rune(b))
	case b == 10:
		return `\n`
	case b == 9:
		return `\t`
	case b == 13:
		return `\r`
	}
	return fmt.Sprintf(`\x%02X`, b)
}

// plainRows writes bytes that rise.
func plainRows(bytes []int) string {
	const marked = `\][^-`
	text := ""
	for k := 0; k < len(bytes); {
		n := 1
		for k+n < len(bytes) && bytes[k+n] == bytes[k]+n {
			n++
		}
		text += plainWritten(bytes[k], marked)
		if n > 2 {
			text += "-"
		}
		if n > 1 {
			text += plainWritten(bytes[k]+n-1, marked)
		}
		k += n
	}
	return text
}

func plainSet(s api.Set) string {
	bytes := bytesOf(s)
	switch n := len(bytes); {
	case n == 256:
		return "."
	case n == 1:
		return plainWritten(bytes[0], `\[()|*+?{^$.`)
	case n == 0:
		return `[^\x00-\xFF]`
	case n <= 128:
		return "[" + plainRows(bytes) + "]"
	}
	return "[^" + plainRows(bytesOf(setWhere(func(b int) bool { return !slices.Contains(bytes, b) }))) + "]"
}

// plainText is a tree's text, of whatever length.
func plainText(r api.Regex) string {
	var kids []string
	for _, kid := range r.Kids {
		text := plainText(kid)
		loose := kid.Kind == api.RxAlt || kid.Kind == api.RxCat && r.Kind != api.RxAlt || kid.Kind == api.RxRep && r.Kind == api.RxRep
		if loose {
			text = "(" + text + ")"
		}
		kids = append(kids, text)
	}
	switch r.Kind {
	case api.RxEmpty:
		return "()"
	case api.RxBegin:
		return "^"
	case api.RxEnd:
		return "$"
	case api.RxCat:
		return strings.Join(kids, "")
	case api.RxAlt:
		return strings.Join(kids, "|")
	case api.RxSet:
		return plainSet(r.Set)
	}
	forms := map[string]string{"0 -1": "*", "1 -1": "+", "0 1": "?"}
	if form := forms[fmt.Sprint(r.Min, r.Max)]; form != "" {
		return kids[0] + form
	}
	if r.Max == -1 {
		return kids[0] + fmt.Sprintf("{%d,}", r.Min)
	}
	if r.Max == r.Min {
		return kids[0] + fmt.Sprintf("{%d}", r.Min)
	}
	return kids[0] + fmt.Sprintf("{%d,%d}", r.Min, r.Max)
}

// checkText holds what is told of a text against the plain forms.
func checkText(t *testing.T, text string) {
	t.Helper()
	r, e, at := Parse(text)
	want, wantE, wantAt := plainParse(text)
	if e != wantE || at != wantAt || !plainSame(r, want) {
		t.Fatalf("Parse(%q): %v, %v, %d, want %v, %v, %d", text, r, e, at, want, wantE, wantAt)
	}
	if e == api.OK {
		checkTree(t, r)
	}
}

// checkTree holds what is told of a tree against the plain forms, and against what follows of them.
func checkTree(t *testing.T, r api.Regex) {
	t.Helper()
	e := plainRight(r)
	if got := Right(r); got != e {
		t.Fatalf("Right(%v): %v, want %v", r, got, e)
	}
	if e != api.OK {
		checkWrongTree(t, r, e)
		return
	}
	if n := Positions(r); n != int(plainCount(r, true).Int64()) {
		t.Fatalf("Positions(%v) = %d, want %v", r, n, plainCount(r, true))
	}
	if !Same(r, r) {
		t.Fatalf("Same(%v, itself) = false", r)
	}
	checkPrint(t, r)
	checkChanged(t, r)
}

func checkWrongTree(t *testing.T, r api.Regex, e api.Errno) {
	t.Helper()
	if text, got := Print(r); got != e || text != "" {
		t.Fatalf("Print(%v): %q, %v, want %v", r, text, got, e)
	}
	if Positions(r) != 0 || Same(r, r) || Same(r, empty) || Same(empty, r) || !plainSame(Fold(r), api.Regex{}) || !plainSame(Turned(r), api.Regex{}) {
		t.Fatalf("of %v, which is %v, something is told", r, e)
	}
}

func checkPrint(t *testing.T, r api.Regex) {
	t.Helper()
	want, wantE := plainText(r), api.OK
	if len(want) > 1024 {
		want, wantE = "", api.ErrLong
	}
	text, e := Print(r)
	if text != want || e != wantE {
		t.Fatalf("Print(%v): %q, %v, want %q, %v", r, text, e, want, wantE)
	}
	if e != api.OK {
		return
	}
	if again, e, at := Parse(text); e != api.OK || at != 0 || !plainSame(again, r) || !Same(again, r) {
		t.Fatalf("Parse(%q), which was printed: %v, %v, %d, not %v", text, again, e, at, r)
	}
}

func checkChanged(t *testing.T, r api.Regex) {
	t.Helper()
	fold, turned := Fold(r), Turned(r)
	for part, want := range map[*api.Regex]api.Regex{&fold: plainFold(r), &turned: plainTurned(r)} {
		if !plainSame(*part, want) {
			t.Fatalf("Fold or Turned of %v: %v, want %v", r, *part, want)
		}
		if Right(*part) != api.OK || Positions(*part) != Positions(r) {
			t.Fatalf("Fold or Turned of %v, %v: %v, with %d positions", r, *part, Right(*part), Positions(*part))
		}
	}
	if !plainSame(Fold(fold), fold) || !plainSame(Turned(turned), r) {
		t.Fatalf("Fold or Turned of %v, done twice: %v, %v", r, Fold(fold), Turned(turned))
	}
}

func plainFold(r api.Regex) api.Regex {
	text := ""
	for _, b := range bytesOf(r.Set) {
		text += string([]byte{byte(b)})
		if b < 128 {
			text += strings.ToUpper(string(rune(b))) + strings.ToLower(string(rune(b)))
		}
	}
	kids := r.Kids
	r.Set, r.Kids = setOf(text), nil
	for _, kid := range kids {
		r.Kids = append(r.Kids, plainFold(kid))
	}
	return r
}

func plainTurned(r api.Regex) api.Regex {
	var kids []api.Regex
	for _, kid := range r.Kids {
		if r.Kind == api.RxCat {
			kids = append([]api.Regex{plainTurned(kid)}, kids...)
		} else {
			kids = append(kids, plainTurned(kid))
		}
	}
	r.Kids = kids
	if r.Kind == api.RxBegin || r.Kind == api.RxEnd {
		r.Kind = api.RxBegin + api.RxEnd - r.Kind
	}
	return r
}

// allTexts goes over each text of some bytes, so long at most.
func allTexts(bytes string, most int, visit func(string)) {
	visit("")
	for length := 1; length <= most; length++ {
		text := []byte(strings.Repeat(bytes[:1], length))
		count := make([]int, length)
		for k := length - 1; k >= 0; {
			visit(string(text))
			for k = length - 1; k >= 0; k-- {
				count[k] = (count[k] + 1) % len(bytes)
				text[k] = bytes[count[k]]
				if count[k] != 0 {
					break
				}
			}
		}
	}
}

func randomText(r *rand.Rand, bytes string, length int) string {
	var b strings.Builder
	for range length {
		b.WriteByte(bytes[r.Intn(len(bytes))])
	}
	return b.String()
}
