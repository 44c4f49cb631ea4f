package query

// The chapter's words by other means: tokens by regexes, all faults of a text and the foremost of them, trees by a stack, texts by ranks, plain trees by rewriting at any node until nothing changes.

import (
	"fmt"
	"math/rand"
	"regexp"
	"slices"
	"strconv"
	"strings"
	"testing"
	"time"
	"unicode/utf8"
	"unsafe"

	"dragnet/api"
	"dragnet/moment"
	"dragnet/syntax"
)

const ever = 253402300800000

// Trees that are made by hand.

func termOf(t api.Term) api.Expr { return api.Expr{Kind: api.ExTerm, Term: t} }

func word(s string) api.Expr { return termOf(api.Term{Kind: api.TermText, Text: s, Fold: true}) }

func exact(s string) api.Expr { return termOf(api.Term{Kind: api.TermText, Text: s}) }

func regex(s string) api.Expr { return termOf(api.Term{Kind: api.TermRegex, Text: s}) }

func field(name string, op int, text string) api.Expr {
	return termOf(api.Term{Kind: api.TermField, Name: name, Op: op, Text: text})
}

func not(x api.Expr) api.Expr { return api.Expr{Kind: api.ExNot, Kids: []api.Expr{x}} }

func and(kids ...api.Expr) api.Expr { return api.Expr{Kind: api.ExAnd, Kids: kids} }

func or(kids ...api.Expr) api.Expr { return api.Expr{Kind: api.ExOr, Kids: kids} }

func whole(x api.Expr) api.Query { return api.Query{To: ever, Expr: x} }

func nots(x api.Expr, n int) api.Expr {
	for range n {
		x = not(x)
	}
	return x
}

func times(x api.Expr, n int) []api.Expr {
	list := make([]api.Expr, n)
	for i := range list {
		list[i] = x
	}
	return list
}

// cloned is a tree in new memory, its texts too.
func cloned(x api.Expr) api.Expr {
	out := api.Expr{Kind: x.Kind, Term: x.Term}
	out.Term.Text, out.Term.Name = strings.Clone(x.Term.Text), strings.Clone(x.Term.Name)
	for _, kid := range x.Kids {
		out.Kids = append(out.Kids, cloned(kid))
	}
	return out
}

// Regexes are of characters: here a byte is the character of its number.
func latin(s string) string {
	runes := make([]rune, len(s))
	for i := range len(s) {
		runes[i] = rune(s[i])
	}
	return string(runes)
}

// unlatin is the bytes of a text that latin made.
func unlatin(s string) string {
	var bytes []byte
	for _, r := range s {
		bytes = append(bytes, byte(r))
	}
	return string(bytes)
}

const (
	rowPattern    = `[#-'+-;?-{}\x{80}-\x{ff}]`
	quotedPattern = `"(?:[^"\\]|\\.)*"`
)

func form(pattern string) *regexp.Regexp { return regexp.MustCompile(`(?s)\A(?:` + pattern + `)`) }

// plainForms is what may stand at a place: the first one that does. A kind with a blank ahead is one that is not whole.
var plainForms = []struct {
	kind string
	form *regexp.Regexp
}{
	{"blank", form(` `)}, {"(", form(`\(`)}, {")", form(`\)`)}, {"*", form(`\*`)}, {"-", form(`-`)},
	{"quoted", form(quotedPattern + `i?`)}, {" quoted", form(`".*`)}, {"regex", form(`/(?:[^/\\]|\\.)*/i?`)}, {" regex", form(`/.*`)},
	{"range", form(`\[[^\]]*\]`)}, {" range", form(`\[.*`)}, // the first token alone
	{"none", form(`\[`)},
	{"field", form(rowPattern + `+(?:!=|<=|>=|=|<|>|~)(?:` + quotedPattern + `|".*|` + rowPattern + `*)`)}, {" field", form(rowPattern + `+!`)}, {"word", form(rowPattern + `+`)},
	{"none", form(`.`)},
}

// plainToken is a piece of a text: a token, a blank, or a byte at which none begins.
type plainToken struct {
	kind, text string
	at         int
}

func (t plainToken) isTerm() bool {
	return slices.Contains([]string{"word", "quoted", " quoted", "regex", " regex", "field", " field"}, t.kind) && !t.isWord("or", "and", "not")
}

func (t plainToken) isWord(words ...string) bool {
	return t.kind == "word" && slices.Contains(words, t.text)
}

// plainCut is all pieces of a text.
func plainCut(s string) []plainToken {
	var list []plainToken
	begun := false
	for at := 0; at < len(s); {
		rest := latin(s[at:])
		for _, f := range plainForms {
			if begun && strings.HasSuffix(f.kind, "range") {
				continue
			}
			if m := f.form.FindString(rest); m != "" {
				list = append(list, plainToken{f.kind, unlatin(m), at})
				begun = begun || f.kind != "blank" && f.kind != "none"
				at += utf8.RuneCountInString(m)
				break
			}
		}
	}
	return list
}

// plainSplit is what Split must answer.
func plainSplit(s string) int {
	for _, t := range plainCut(s) {
		if t.text == "|" {
			return t.at
		}
	}
	return len(s)
}

// plainFaults collects what is wrong with a text.
type plainFaults struct {
	list []fault
}

func (f *plainFaults) add(wrong bool, e api.Errno, at int) {
	if wrong {
		f.list = append(f.list, fault{e, at})
	}
}

// plainFault is what is wrong with a text at the foremost place; of several there what was found first.
func plainFault(s string) fault {
	var f plainFaults
	wanted, open, terms := true, 0, 0
	for _, t := range plainCut(s) {
		switch {
		case t.kind == "none":
			f.add(true, 150, t.at)
		case t.kind == "(":
			open++
			wanted = true
		case t.kind == ")":
			f.add(wanted || open == 0, 150, t.at)
			open--
		case t.isWord("or", "and"):
			f.add(wanted, 150, t.at)
			wanted = true
		case t.isWord("not"), t.kind == "-":
			wanted = true
		case strings.HasSuffix(t.kind, "range"):
			f.add(!plainRangeForm(t.text), 154, t.at)
		case t.isTerm():
			f.add(terms >= 64, 85, t.at)
			terms++
			f.term(s, t)
			wanted = false
		case t.kind == "*":
			wanted = false
		}
		behind := t.at + len(t.text)
		f.add((t.isTerm() || t.kind == "*" || t.kind == "word") && behind < len(s) && !strings.Contains(" ()", s[behind:behind+1]), 150, behind)
	}
	f.add(wanted || open > 0, 150, len(s))
	slices.SortStableFunc(f.list, func(a, b fault) int { return a.at - b.at })
	return append(f.list, fault{})[0]
}

func plainRangeForm(s string) bool {
	q, ok := plainRange(s)
	return ok && q.From <= q.To
}

// plainRange is a query with the range that a text says.
func plainRange(s string) (api.Query, bool) {
	q := api.Query{To: ever}
	m := regexp.MustCompile(`(?s)\A\[(.*?)\.\.(.*)\]\z`).FindStringSubmatch(s)
	if m == nil {
		return q, false
	}
	e, f := api.OK, api.OK
	if m[1] != "" {
		q.From, e = moment.Read(m[1])
	}
	if m[2] != "" {
		q.To, f = moment.Read(m[2])
	}
	return q, e == api.OK && f == api.OK
}

var (
	saidForm  = form(`"(?:[ !#-\[\]-~\x{80}-\x{ff}]|\\["\\]|\\x[0-9A-F]{2})*`)
	pairForm  = regexp.MustCompile(`(?s)\\x..|\\.`)
	nameForm  = regexp.MustCompile(`\A[A-Za-z_][A-Za-z0-9_.\-\[\]]{0,63}\z`)
	fieldForm = regexp.MustCompile(`(?s)\A([^=!<>~]*)([=!<>~]=?)(.*)\z`) // a value begins with no sign
	slashForm = regexp.MustCompile(`(?s)\\.|/`)
	plainOps  = []string{"", "=", "!=", "<", "<=", ">", ">=", "~"}
)

// term adds what is wrong with a term itself.
func (f *plainFaults) term(s string, t plainToken) {
	switch strings.TrimSpace(t.kind) {
	case "word":
		f.add(len(t.text) > 256, 150, t.at)
	case "quoted":
		said := f.said(s, t.at)
		f.add(said == "" || len(said) > 256, 150, t.at)
	case "regex":
		f.regex(s, t)
	case "field":
		name := fieldForm.FindStringSubmatch(t.text)[1]
		f.add(!nameForm.MatchString(name), 153, t.at)
		f.add(t.kind == " field", 153, t.at+len(name))
		if t.kind == " field" {
			return
		}
		value := plainValueOf(t)
		at := t.at + len(t.text) - len(value)
		f.add(value == "" || value[0] != '"' && len(value) > 256, 153, at)
		if strings.HasPrefix(value, `"`) {
			f.add(len(f.said(s, at)) > 256, 153, at)
		}
	}
}

// plainValueOf is a field term's value as it stands.
func plainValueOf(t plainToken) string {
	m := fieldForm.FindStringSubmatch(t.text)
	if m[2] == "~=" || m[2] == "==" {
		panic(t.text) // no value begins so
	}
	return m[3]
}

// said adds what is wrong within the quoted text that begins at a place; what it says, else something that is neither empty nor long.
func (f *plainFaults) said(s string, at int) string {
	n := utf8.RuneCountInString(saidForm.FindString(latin(s[at:])))
	if !strings.HasPrefix(s[at+n:], `"`) {
		f.add(true, 151, at+n)
		return "wrong"
	}
	return plainSaid(s[at+1 : at+n])
}

func plainSaid(s string) string {
	return unlatin(pairForm.ReplaceAllStringFunc(latin(s), func(pair string) string {
		if !strings.HasPrefix(pair, `\x`) {
			return pair[1:]
		}
		n, err := strconv.ParseUint(pair[2:], 16, 8)
		if err != nil {
			panic(err)
		}
		return string(rune(n))
	}))
}

func (f *plainFaults) regex(s string, t plainToken) {
	if t.kind == " regex" {
		f.add(true, 152, len(s))
		return
	}
	inner := strings.TrimSuffix(t.text, "i")
	inner = inner[1 : len(inner)-1]
	_, e, at := syntax.Parse(inner)
	f.add(e != api.OK, 152, t.at+1+at)
	if e == api.OK {
		f.add(!plainRegexRight(plainRegexText(inner)), 152, t.at+1)
	}
}

// plainRegexText is what syntax makes of a regex's text; empty: nothing.
func plainRegexText(s string) string {
	r, _, _ := syntax.Parse(s)
	text, _ := syntax.Print(r)
	return text
}

// plainRegexRight tells whether a term may have a text.
func plainRegexRight(s string) bool {
	return s != "" && plainRegexText(s) == s && len(plainSlashed(s)) <= 1024
}

func plainSlashed(s string) string {
	return slashForm.ReplaceAllStringFunc(s, func(m string) string {
		if m == "/" {
			return `\/`
		}
		return m
	})
}

// plainTree is the tree of pieces that are right: brackets are made one thing each, the innermost first.
func plainTree(list []plainToken) api.Expr {
	type item struct {
		sign string
		x    api.Expr
	}
	reduce := func(items []item) item {
		var chains, parts []api.Expr
		for i := len(items) - 1; i >= 0; i-- { // from behind: a part is there when its `not` comes
			switch last := items[i]; last.sign {
			case "":
				parts = append(parts, last.x)
			case "not":
				parts[len(parts)-1] = not(parts[len(parts)-1])
			case "or":
				slices.Reverse(parts)
				chains = append(chains, plainOne(and(parts...)))
				parts = nil
			}
		}
		slices.Reverse(parts)
		chains = append(chains, plainOne(and(parts...)))
		slices.Reverse(chains)
		return item{x: plainOne(or(chains...))}
	}
	levels := [][]item{nil}
	for _, t := range list {
		top := len(levels) - 1
		switch {
		case t.kind == "(":
			levels = append(levels, nil)
		case t.kind == ")":
			levels[top-1] = append(levels[top-1], reduce(levels[top]))
			levels = levels[:top]
		case t.kind == "*":
			levels[top] = append(levels[top], item{x: api.Expr{Kind: 1}})
		case t.kind == "-":
			levels[top] = append(levels[top], item{sign: "not"})
		case t.isWord("or", "and", "not"):
			levels[top] = append(levels[top], item{sign: t.text})
		case t.isTerm():
			levels[top] = append(levels[top], item{x: termOf(plainTerm(t))})
		}
	}
	return reduce(levels[0]).x
}

func plainOne(x api.Expr) api.Expr {
	if len(x.Kids) == 1 {
		return x.Kids[0]
	}
	return x
}

func plainTerm(t plainToken) api.Term {
	folds := strings.HasSuffix(t.text, "i")
	text := strings.TrimSuffix(t.text, "i")
	switch t.kind {
	case "word":
		return api.Term{Kind: 1, Text: t.text, Fold: true}
	case "quoted":
		return api.Term{Kind: 1, Text: plainSaid(text[1 : len(text)-1]), Fold: folds}
	case "regex":
		return api.Term{Kind: 2, Text: plainRegexText(text[1 : len(text)-1]), Fold: folds}
	}
	value := plainValueOf(t)
	sign := fieldForm.FindStringSubmatch(t.text)
	if strings.HasPrefix(value, `"`) {
		value = plainSaid(value[1 : len(value)-1])
	}
	return api.Term{Kind: 3, Name: sign[1], Op: slices.Index(plainOps, sign[2]), Text: value}
}

// plainParse is what Parse must answer.
func plainParse(s string) (api.Query, api.Errno, int) {
	if len(s) > 2048 {
		return api.Query{}, 155, 2048
	}
	if f := plainFault(s); f.code != 0 {
		return api.Query{}, f.code, f.at
	}
	q := api.Query{To: ever}
	list := plainCut(s)
	for _, t := range list {
		if t.kind == "range" {
			q, _ = plainRange(t.text)
		}
	}
	q.Expr = plainTree(list)
	if plainDeep(q.Expr) > 40 {
		return api.Query{}, 84, 0
	}
	if len(plainPrint(q)) > 2048 {
		return api.Query{}, 155, 0
	}
	return q, 0, 0
}

func plainDeep(x api.Expr) int {
	deepest := 0
	for _, kid := range x.Kids {
		deepest = max(deepest, plainDeep(kid))
	}
	return deepest + 1
}

// plainPrint is what Print writes, however long.
func plainPrint(q api.Query) string {
	text, _ := plainRanked(q.Expr)
	if q.From == 0 && q.To == ever {
		return text
	}
	show := func(stamp, otherwise int) string {
		if stamp == otherwise {
			return ""
		}
		return time.UnixMilli(int64(stamp)).UTC().Format("2006-01-02T15:04:05.000Z")
	}
	return fmt.Sprintf("[%s..%s] %s", show(q.From, 0), show(q.To, ever), text)
}

// plainRanked is the text of a tree, and its rank: 1 of an ExOr, 2 of an ExAnd, else 3.
func plainRanked(x api.Expr) (string, int) {
	kids := func(least int) []string {
		var list []string
		for _, kid := range x.Kids {
			text, rank := plainRanked(kid)
			if rank < least {
				text = "(" + text + ")"
			}
			list = append(list, text)
		}
		return list
	}
	switch x.Kind {
	case 1:
		return "*", 3
	case 3:
		return "not " + kids(3)[0], 3
	case 4:
		return strings.Join(kids(3), " "), 2
	case 5:
		return strings.Join(kids(2), " or "), 1
	}
	return plainTermText(x.Term), 3
}

var (
	wordForm  = regexp.MustCompile(`\A[#-'+,.0-;?-Z\\-{}\x{80}-\x{ff}]` + rowPattern + `*\z`) // it begins with none of - / [
	valueForm = regexp.MustCompile(`\A` + rowPattern + `+\z`)
	otherForm = regexp.MustCompile(`["\\]|[^ -~]`)
)

func plainTermText(t api.Term) string {
	fold := ""
	if t.Fold {
		fold = "i"
	}
	quoted := `"` + otherForm.ReplaceAllStringFunc(latin(t.Text), func(c string) string {
		if c == `"` || c == `\` {
			return `\` + c
		}
		return fmt.Sprintf(`\x%02X`, unlatin(c)[0])
	}) + `"`
	switch {
	case t.Kind == 2:
		return "/" + plainSlashed(t.Text) + "/" + fold
	case t.Kind == 3 && valueForm.MatchString(latin(t.Text)):
		return t.Name + plainOps[t.Op] + t.Text
	case t.Kind == 3:
		return t.Name + plainOps[t.Op] + quoted
	case t.Fold && wordForm.MatchString(latin(t.Text)) && t.Text != "or" && t.Text != "and" && t.Text != "not":
		return t.Text
	}
	return quoted + fold
}

// plainRight is what Right must answer.
func plainRight(q api.Query) api.Errno {
	if q.From < 0 || q.From > ever-1 || q.To > ever || q.From > q.To {
		return 154
	}
	type node struct {
		x    api.Expr
		deep int
	}
	ahead, terms := 0, 0
	for stack := []node{{q.Expr, 1}}; len(stack) > 0; ahead++ {
		n := stack[len(stack)-1]
		stack = stack[:len(stack)-1]
		if e := plainNode(n.x, n.deep, ahead, terms); e != 0 {
			return e
		}
		if n.x.Kind == 2 {
			terms++
		}
		for _, kid := range slices.Backward(n.x.Kids) {
			stack = append(stack, node{kid, n.deep + 1})
		}
	}
	if len(plainPrint(q)) > 2048 {
		return 155
	}
	return 0
}

func plainNode(x api.Expr, deep, ahead, terms int) api.Errno {
	least, most := []int{0, 0, 0, 1, 2, 2}, []int{0, 0, 0, 1, 9999, 9999}
	switch {
	case ahead >= 2048:
		return 155
	case deep > 40:
		return 84
	case x.Kind < 1 || x.Kind > 5 || len(x.Kids) < least[x.Kind] || len(x.Kids) > most[x.Kind] || x.Kind != 2 && x.Term != api.Term{}:
		return 155
	case x.Kind != 2:
		return 0
	case terms >= 64:
		return 85
	}
	return plainTermRight(x.Term)
}

func plainTermRight(t api.Term) api.Errno {
	switch {
	case t.Kind < 1 || t.Kind > 3 || t.Kind != 3 && (t.Name != "" || t.Op != 0) || t.Kind == 3 && t.Fold:
		return 155
	case t.Kind == 1 && (len(t.Text) < 1 || len(t.Text) > 256):
		return 150
	case t.Kind == 2 && !plainRegexRight(t.Text):
		return 152
	case t.Kind == 3 && (!nameForm.MatchString(t.Name) || t.Op < 1 || t.Op > 7 || len(t.Text) > 256):
		return 153
	}
	return 0
}

func plainSame(a, b api.Expr) bool {
	if a.Kind != b.Kind || a.Term != b.Term || len(a.Kids) != len(b.Kids) {
		return false
	}
	for i := range a.Kids {
		if !plainSame(a.Kids[i], b.Kids[i]) {
			return false
		}
	}
	return true
}

func plainSameQuery(a, b api.Query) bool {
	return a.From == b.From && a.To == b.To && plainSame(a.Expr, b.Expr)
}

// plainStep changes one node of a tree, the outermost that it can, by one of the chapter's rules.
func plainStep(x api.Expr) (api.Expr, bool) {
	if x.Kind == 3 && x.Kids[0].Kind == 3 {
		return x.Kids[0].Kids[0], true
	}
	idle, ruling := api.Expr{Kind: 1}, not(api.Expr{Kind: 1})
	if x.Kind == 5 {
		idle, ruling = ruling, idle
	}
	if x.Kind >= 4 && len(x.Kids) == 0 {
		return idle, true
	}
	if x.Kind >= 4 && len(x.Kids) == 1 {
		return x.Kids[0], true
	}
	for i := 0; x.Kind >= 4 && i < len(x.Kids); i++ {
		kid := x.Kids[i]
		twice := slices.ContainsFunc(x.Kids[:i], func(other api.Expr) bool { return plainSame(kid, other) })
		switch {
		case plainSame(kid, ruling):
			return ruling, true
		case plainSame(kid, idle) || twice:
			return api.Expr{Kind: x.Kind, Kids: slices.Concat(x.Kids[:i], x.Kids[i+1:])}, true
		case kid.Kind == x.Kind:
			return api.Expr{Kind: x.Kind, Kids: slices.Concat(x.Kids[:i], kid.Kids, x.Kids[i+1:])}, true
		}
	}
	for i := range x.Kids {
		if kid, changed := plainStep(x.Kids[i]); changed {
			out := api.Expr{Kind: x.Kind, Kids: slices.Clone(x.Kids)}
			out.Kids[i] = kid
			return out, true
		}
	}
	return x, false
}

// plainPlain is what Plain must answer.
func plainPlain(q api.Query) api.Query {
	if plainRight(q) != 0 {
		return api.Query{}
	}
	for changed := true; changed; {
		q.Expr, changed = plainStep(q.Expr)
	}
	return q
}

// plainTerms is all terms of a tree, each once.
func plainTerms(x api.Expr) []api.Term {
	var list []api.Term
	if x.Kind == 2 {
		list = append(list, x.Term)
	}
	for _, kid := range x.Kids {
		for _, t := range plainTerms(kid) {
			if !slices.Contains(list, t) {
				list = append(list, t)
			}
		}
	}
	return list
}

// holds tells whether an expression holds, if just these terms do.
func holds(x api.Expr, given []api.Term) bool {
	kids := 0
	for _, kid := range x.Kids {
		if holds(kid, given) {
			kids++
		}
	}
	switch x.Kind {
	case 2:
		return slices.Contains(given, x.Term)
	case 3:
		return kids == 0
	case 5:
		return kids > 0
	}
	return kids == len(x.Kids)
}

// isWithin tells whether a text is a part of another one's memory.
func isWithin(s, of string) bool {
	at := uintptr(unsafe.Pointer(unsafe.StringData(s)))
	from := uintptr(unsafe.Pointer(unsafe.StringData(of)))
	return len(s) > 0 && at >= from && at < from+uintptr(len(of))
}

func pick[T any](r *rand.Rand, of ...T) T { return of[r.Intn(len(of))] }

func anyBytes(r *rand.Rand, of string, n int) string {
	b := make([]byte, n)
	for i := range b {
		b[i] = byte(r.Intn(256))
		if of != "" {
			b[i] = of[r.Intn(len(of))]
		}
	}
	return string(b)
}

// allTexts goes over all texts of at most so many of some pieces.
func allTexts(pieces []string, most int, visit func(string)) {
	var from func(s string, left int)
	from = func(s string, left int) {
		visit(s)
		for _, p := range pieces {
			if left > 0 {
				from(s+p, left-1)
			}
		}
	}
	from("", most)
}

// holdsParse holds Parse and Split against the chapter's words, and what follows of a text that is read.
func holdsParse(t *testing.T, s string) api.Errno {
	t.Helper()
	if n := Split(s); n != plainSplit(s) {
		t.Fatalf("Split(%q): %d, want %d", s, n, plainSplit(s))
	}
	q, e, at := Parse(s)
	want, wantE, wantAt := plainParse(s)
	if !plainSameQuery(q, want) || e != wantE || at != wantAt {
		t.Fatalf("Parse(%q): %v, %d, %d, want %v, %d, %d", s, q, e, at, want, wantE, wantAt)
	}
	if e == api.OK {
		holdsQuery(t, q)
	}
	return e
}

// holdsQuery holds all that is told of a tree against the chapter's words.
func holdsQuery(t *testing.T, q api.Query) api.Errno {
	t.Helper()
	e := Right(q)
	if want := plainRight(q); e != want {
		t.Fatalf("Right(%v): %d, want %d", q, e, want)
	}
	s, f := Print(q)
	p := Plain(q)
	if e != api.OK {
		if s != "" || f != e || !plainSameQuery(p, api.Query{}) || len(Terms(q)) != 0 || Same(q, q) || Same(q, whole(word("a"))) || Same(whole(word("a")), q) {
			t.Fatalf("of %v, which is %d, something is told: %q, %d", q, e, s, f)
		}
		return e
	}
	if s != plainPrint(q) || f != api.OK || !Same(q, q) {
		t.Fatalf("Print(%v): %q, %d, want %q", q, s, f, plainPrint(q))
	}
	again, f, at := Parse(s)
	if f != api.OK || at != 0 || !plainSameQuery(again, q) || !Same(again, q) {
		t.Fatalf("Parse(%q), which was printed: %v, %d, %d, not %v", s, again, f, at, q)
	}
	if list := Terms(q); !slices.Equal(list, plainTerms(q.Expr)) {
		t.Fatalf("Terms(%s): %v, want %v", s, list, plainTerms(q.Expr))
	}
	if want := plainPlain(q); !plainSameQuery(p, want) {
		t.Fatalf("Plain(%s): %s, want %s", s, plainPrint(p), plainPrint(want))
	}
	holdsPlain(t, q, p)
	return e
}

// holdsPlain holds what a query was made to against the query.
func holdsPlain(t *testing.T, q, p api.Query) {
	t.Helper()
	s := plainPrint(q)
	if Right(p) != api.OK || !plainSameQuery(Plain(p), p) {
		t.Fatalf("Plain of %s: %v, and of that %v", s, p, Plain(p))
	}
	list := Terms(q)
	for _, term := range Terms(p) {
		if !slices.Contains(list, term) {
			t.Fatalf("Plain of %s has the term %v", s, term)
		}
	}
	ways := 1 << min(len(list), 6)
	r := rand.New(rand.NewSource(157))
	for n := range ways {
		var given []api.Term
		for i, term := range list {
			if n>>i&1 == 1 || i >= 6 && r.Intn(2) == 0 {
				given = append(given, term)
			}
		}
		if holds(q.Expr, given) != holds(p.Expr, given) {
			t.Fatalf("Plain of %s, %s, says something else if just %v hold", s, plainPrint(p), given)
		}
	}
}
