package moment

// The chapter's words by other means: a calendar that is walked day by day, regexes, the library's dates, numbers without bounds.

import (
	"iter"
	"math/big"
	"math/rand"
	"regexp"
	"strconv"
	"strings"
	"testing"
	"time"

	"dragnet/api"
)

const (
	noon     = 1794744000000 // 2026-11-15T12:00:00Z
	dayLong  = 86400000
	least    = -1 << 63
	greatest = 1<<63 - 1
)

// plainDay is a day, and which one of the week it is.
type plainDay struct{ year, month, day, week int }

func plainMonth(year, month int) int {
	long := []int{31, 28, 31, 30, 31, 30, 31, 31, 30, 31, 30, 31}[month-1]
	four, hundred, fourHundred := year%4 == 0, year%100 == 0, year%400 == 0
	if month == 2 && (fourHundred || four && !hundred) {
		long++
	}
	return long
}

// calendar walks through all days from the first one of 1970 to the last one of 9999.
func calendar() iter.Seq2[int, plainDay] {
	return func(yield func(int, plainDay) bool) {
		number, week := 0, 4
		for year := 1970; year <= 9999; year++ {
			for month := 1; month <= 12; month++ {
				for day := 1; day <= plainMonth(year, month); day++ {
					if !yield(number, plainDay{year, month, day, week}) {
						return
					}
					number++
					week = (week + 1) % 7
				}
			}
		}
	}
}

// someStamps is the edges of stamps, of seconds, minutes, hours and days, and many others.
func someStamps(seed int64) []int {
	all := []int{0, 1, api.MaxStamp - 1, api.MaxStamp, noon, noon + 250}
	for _, unit := range []int{1000, 60000, 3600000, dayLong, 31 * dayLong, 365 * dayLong, 366 * dayLong, 36524 * dayLong, 146097 * dayLong} {
		for _, times := range []int{1, 2, 30, 59} {
			for off := -1; off <= 1; off++ {
				if n := unit*times + off; n <= api.MaxStamp {
					all = append(all, n)
				}
			}
		}
	}
	source := rand.New(rand.NewSource(seed))
	for range 20000 {
		all = append(all, source.Intn(api.MaxStamp+1)>>source.Intn(48))
	}
	return all
}

// noStamps is numbers that are no stamps.
func noStamps() []int {
	return []int{least, least + 1, -api.MaxStamp, -dayLong, -1000, -1, api.MaxStamp + 1, api.MaxStamp + dayLong, 1 << 48, 1 << 62, greatest - 1, greatest}
}

// plainTold is a day, a time and a zone as texts; an empty sign is UTC.
type plainTold struct{ year, month, day, hour, minute, second, milli, sign, hours, minutes string }

func number(s string) int {
	n, _ := strconv.Atoi(s)
	return n
}

// stamp is what comes of them, if there is such a stamp.
func (p plainTold) stamp() (int, bool) {
	y, mo, d := number(p.year), number(p.month), number(p.day)
	h, mi, s, ms := number(p.hour), number(p.minute), number(p.second), number(p.milli)
	at := time.Date(y, time.Month(mo), d, h, mi, s, ms*1000000, time.UTC)
	if y < 1970 || at.Year() != y || int(at.Month()) != mo || at.Day() != d || at.Hour() != h || at.Minute() != mi || at.Second() != s {
		return 0, false
	}
	if number(p.hours) > 23 || number(p.minutes) > 59 {
		return 0, false
	}
	off := (number(p.hours)*60 + number(p.minutes)) * 60000
	if p.sign == "+" {
		off = -off
	}
	n := int(at.UnixMilli()) + off
	return n, n >= 0 && n <= 253402300799999
}

const (
	dayForm  = `([0-9]{4})-([0-9]{2})-([0-9]{2})`
	timeForm = `([0-9]{2}):([0-9]{2}):([0-9]{2})(?:\.([0-9]{3}))?`
	zoneForm = `(?:Z|([+-])([0-9]{2}):([0-9]{2}))`
	names    = `Jan|Feb|Mar|Apr|May|Jun|Jul|Aug|Sep|Oct|Nov|Dec`
	restForm = `(?: (.*))?\z`
)

// plainForms is a regex for what Read takes, and for the forms of Ahead.
type plainForms struct{ read, dated, bracket, ten, thirteen, span *regexp.Regexp }

func newForms() *plainForms {
	span := `\A`
	for _, unit := range []string{"d", "h", "m", "s", "ms"} {
		span += `(?:([1-9][0-9]{0,14})` + unit + `)?`
	}
	return &plainForms{
		read:     regexp.MustCompile(`\A` + dayForm + `T` + timeForm + zoneForm + `\z`),
		dated:    regexp.MustCompile(`(?s)\A` + dayForm + `[T ]` + timeForm + zoneForm + `?` + restForm),
		bracket:  regexp.MustCompile(`(?s)\A\[([0-9]{2})/(` + names + `)/([0-9]{4}):([0-9]{2}):([0-9]{2}):([0-9]{2}) ([+-])([0-9]{2})([0-9]{2})\]` + restForm),
		ten:      regexp.MustCompile(`(?s)\A([0-9]{10})` + restForm),
		thirteen: regexp.MustCompile(`(?s)\A([0-9]{13})` + restForm),
		span:     regexp.MustCompile(span + `\z`),
	}
}

func toldBy(m []string) plainTold {
	return plainTold{m[1], m[2], m[3], m[4], m[5], m[6], m[7], m[8], m[9], m[10]}
}

// plainRead is what Read must answer.
func (f *plainForms) plainRead(s string) (int, api.Errno) {
	m := f.read.FindStringSubmatch(s)
	if m == nil {
		return 0, 33
	}
	if n, ok := toldBy(m).stamp(); ok {
		return n, 0
	}
	return 0, 120
}

// plainAhead is what Ahead must answer, and how many of the forms the line fits.
func (f *plainForms) plainAhead(line string) (stamp int, rest string, ok bool, forms int) {
	take := func(n int, behind string, right bool) {
		forms++
		if right {
			stamp, rest, ok = n, behind, true
		}
	}
	if m := f.dated.FindStringSubmatch(line); m != nil {
		n, right := toldBy(m).stamp()
		take(n, m[11], right)
	}
	if m := f.bracket.FindStringSubmatch(line); m != nil {
		month := strconv.Itoa(strings.Index(names, m[2])/4 + 1)
		n, right := plainTold{m[3], month, m[1], m[4], m[5], m[6], "", m[7], m[8], m[9]}.stamp()
		take(n, m[10], right)
	}
	if m := f.ten.FindStringSubmatch(line); m != nil {
		take(number(m[1])*1000, m[2], true)
	}
	if m := f.thirteen.FindStringSubmatch(line); m != nil {
		take(number(m[1]), m[2], true)
	}
	return stamp, rest, ok, forms
}

// plainSpan is what Span must answer.
func (f *plainForms) plainSpan(s string) (int, api.Errno) {
	m := f.span.FindStringSubmatch(s)
	if m == nil || s == "" {
		return 0, 121
	}
	sum := new(big.Int)
	for i, unit := range []int64{86400000, 3600000, 60000, 1000, 1} {
		if m[i+1] != "" {
			count, _ := new(big.Int).SetString(m[i+1], 10)
			sum.Add(sum, count.Mul(count, big.NewInt(unit)))
		}
	}
	if sum.Cmp(big.NewInt(253402300799999)) > 0 {
		return 0, 121
	}
	return int(sum.Int64()), 0
}

// hurt is a text with one byte exchanged for each other one, gone, or put in, at each place, cut off at each, and with two exchanged.
func hurt(s string) iter.Seq[string] {
	return func(yield func(string) bool) {
		for at := range len(s) + 1 {
			for b := range 256 {
				one := string([]byte{byte(b)})
				if !yield(s[:at]+one+s[at:]) || at < len(s) && !yield(s[:at]+one+s[at+1:]) {
					return
				}
			}
			if !yield(s[:at]) || !yield(s[at:]) || at < len(s) && !yield(s[:at]+s[at+1:]) {
				return
			}
			for behind := at + 1; behind < len(s); behind++ {
				if !yield(s[:at] + s[behind:behind+1] + s[at+1:behind] + s[at:at+1] + s[behind+1:]) {
					return
				}
			}
		}
	}
}

// spelt is all texts of at most so many of the letters.
func spelt(letters string, most int) []string {
	all, last := []string{""}, []string{""}
	for range most {
		var next []string
		for _, s := range last {
			for i := range len(letters) {
				next = append(next, s+letters[i:i+1])
			}
		}
		all, last = append(all, next...), next
	}
	return all
}

func pick(source *rand.Rand, from []string) string { return from[source.Intn(len(from))] }

// choice is texts that may stand somewhere, and others that may not, which are taken now and then. Each text is written behind a comma of its own.
type choice struct{ right, wrong string }

func (c choice) pick(source *rand.Rand) string {
	from := c.right
	if source.Intn(20) == 0 {
		from = c.wrong
	}
	return pick(source, strings.Split(from, ",")[1:])
}

// picked is one of each choice, one behind the other.
func picked(source *rand.Rand, choices ...choice) string {
	all := ""
	for _, c := range choices {
		all += c.pick(source)
	}
	return all
}

// anyText is bytes of any kind, or of those that stand in stamps and spans.
func anyText(source *rand.Rand, size int) string {
	b := make([]byte, size)
	close := source.Intn(3) > 0
	for i := range b {
		b[i] = byte(source.Intn(256))
		if close {
			b[i] = "0123456789-:T Z+.[]/NovJandhms"[source.Intn(30)]
		}
	}
	return string(b)
}

func holdsRead(t *testing.T, f *plainForms, s string) {
	t.Helper()
	got, e := Read(s)
	if want, why := f.plainRead(s); got != want || e != why {
		t.Fatalf("Read(%q): %d, %v, want %d, %v", s, got, e, want, why)
	}
}

func holdsAhead(t *testing.T, f *plainForms, line string) {
	t.Helper()
	got, rest, ok := Ahead(line)
	want, behind, right, forms := f.plainAhead(line)
	if got != want || rest != behind || ok != right {
		t.Fatalf("Ahead(%q): %d, %q, %v, want %d, %q, %v", line, got, rest, ok, want, behind, right)
	}
	if forms > 1 {
		t.Fatalf("%q fits %d forms", line, forms)
	}
}

func holdsSpan(t *testing.T, f *plainForms, s string) {
	t.Helper()
	got, e := Span(s)
	if want, why := f.plainSpan(s); got != want || e != why {
		t.Fatalf("Span(%q): %d, %v, want %d, %v", s, got, e, want, why)
	}
}
