package moment

import (
	"math/rand"
	"strings"
	"testing"
	"unsafe"

	"dragnet/api"
)

func TestRead(t *testing.T) { // 12.3
	for s, want := range map[string]int{
		"2026-11-15T12:00:00Z": noon, "2026-11-15T12:00:00.250Z": noon + 250, "2026-11-15T12:00:00.000Z": noon, "2026-11-15T12:00:00.250+01:30": 1794738600250,
		"2026-11-15T12:00:00-01:30": noon + 5400000, "2026-11-15T12:00:00+00:00": noon, "2026-11-15T12:00:00-00:00": noon, "2026-11-15T12:00:00-00:01": noon + 60000, "2026-11-15T12:00:00+23:59": noon - 86340000, "2026-11-15T12:00:00-23:59": noon + 86340000,
		"1970-01-01T00:00:00Z": 0, "1970-01-01T00:01:00+00:01": 0, "1970-01-01T23:59:00+23:59": 0, "1970-01-01T00:00:00-23:59": 86340000, "2000-02-29T00:00:00Z": 951782400000,
		"9999-12-31T23:59:59.999Z": api.MaxStamp, "9999-12-31T23:58:59.999-00:01": api.MaxStamp, "9999-12-31T23:59:59.999+00:01": api.MaxStamp - 60000,
	} {
		if n, e := Read(s); n != want || e != api.OK {
			t.Errorf("Read(%q): %d, %v, want %d", s, n, e, want)
		}
	}
}

func TestReadRefuses(t *testing.T) { // 12.3
	for s, want := range map[string]api.Errno{
		// No day, T, time and zone.
		"": api.ErrChar, "Z": api.ErrChar, "2026-11-15": api.ErrChar, "2026-11-15T12:00:00": api.ErrChar, "2026-11-15T12:00:00.250": api.ErrChar, "2026-11-15 12:00:00Z": api.ErrChar, "2026-11-15t12:00:00Z": api.ErrChar, "2026-11-15T12:00:00z": api.ErrChar, "2026-11-15T12:00Z": api.ErrChar,
		"2026-11-15T12:00:00.Z": api.ErrChar, "2026-11-15T12:00:00.2Z": api.ErrChar, "2026-11-15T12:00:00.25Z": api.ErrChar, "2026-11-15T12:00:00.2500Z": api.ErrChar, "2026-11-15T12:00:00,250Z": api.ErrChar, "2026-11-15T12:00:00.25+01:00": api.ErrChar,
		"2026-11-15T12:00:00+0130": api.ErrChar, "2026-11-15T12:00:00+01": api.ErrChar, "2026-11-15T12:00:00+1:30": api.ErrChar, "2026-11-15T12:00:00 01:30": api.ErrChar, "2026-11-15T12:00:00Z+01:30": api.ErrChar, "2026-11-15T12:00:00+01:30Z": api.ErrChar,
		"2026-11-15T12:00:00Z ": api.ErrChar, " 2026-11-15T12:00:00Z": api.ErrChar, "2026-11-15T12:00:00Z\n": api.ErrChar, "+2026-11-15T12:00:00Z": api.ErrChar, "026-11-15T12:00:00Z": api.ErrChar, "12026-11-15T12:00:00Z": api.ErrChar, "2026-1-15T12:00:00Z": api.ErrChar, "2026-+1-15T12:00:00Z": api.ErrChar, "2026-11-15T12:00:0xZ": api.ErrChar, "1794744000": api.ErrChar, "[15/Nov/2026:12:00:00 +0000]": api.ErrChar,
		// These too, though there is no such day either.
		"2026-13-15T12:00:00Zx": api.ErrChar, "2026-11-31T12:00:00": api.ErrChar, "0000-00-00T99:99:99+99:9x": api.ErrChar,
		// No such day and time, or zone.
		"2026-11-31T12:00:00Z": api.ErrDate, "2026-02-29T12:00:00Z": api.ErrDate, "2100-02-29T12:00:00Z": api.ErrDate, "2026-00-15T12:00:00Z": api.ErrDate, "2026-13-15T12:00:00Z": api.ErrDate, "2026-11-00T12:00:00Z": api.ErrDate, "2026-11-15T24:00:00Z": api.ErrDate, "2026-11-15T12:60:00Z": api.ErrDate, "2026-11-15T12:00:60Z": api.ErrDate, "0000-01-01T00:00:00Z": api.ErrDate,
		"2026-11-15T12:00:00+24:00": api.ErrDate, "2026-11-15T12:00:00-24:00": api.ErrDate, "2026-11-15T12:00:00+00:60": api.ErrDate, "2026-11-15T12:00:00-00:60": api.ErrDate, "2026-11-15T12:00:00+99:99": api.ErrDate,
		// No stamp: the day and the time must be within the years too.
		"1970-01-01T00:00:00+00:01": api.ErrDate, "1970-01-01T00:00:59.999+00:01": api.ErrDate, "9999-12-31T23:59:00-00:01": api.ErrDate, "9999-12-31T23:59:59.999-23:59": api.ErrDate, "1969-12-31T23:59:59-23:59": api.ErrDate, "1969-12-31T23:59:59Z": api.ErrDate,
	} {
		if n, e := Read(s); n != 0 || e != want {
			t.Errorf("Read(%q): %d, %v, want %v", s, n, e, want)
		}
	}
}

// stampTexts is stamps as texts, one of each form.
func stampTexts() []string {
	return []string{
		"2026-11-15T12:00:00Z", "2026-11-15T12:00:00.250Z", "2024-02-29T23:59:59.999+01:30", "1970-01-01T00:00:00-12:00", "2026-11-15T12:00:00", "2026-11-15 12:00:00.250", "2026-11-15 12:00:00-01:30",
		"[15/Nov/2026:12:00:00 +0000]", "[29/Feb/2000:23:59:59 -0130]", "1794744000", "1794744000250",
	}
}

func TestReadHurt(t *testing.T) { // 12.3
	f := newForms()
	for _, s := range stampTexts() {
		holdsRead(t, f, s)
		for other := range hurt(s) {
			holdsRead(t, f, other)
		}
	}
}

var (
	someYears   = choice{",1970,2000,2023,2024,2100,9999", ",1969,0000,970,10000"}
	someMonths  = choice{",01,02,02,04,06,09,11,12", ",00,13,1"}
	someDays    = choice{",01,28,29,30,31", ",00,32,99,1"}
	someTimes   = choice{",00:00:00,00:01:00,12:00:00,23:58:59,23:59:00,23:59:59", ",24:00:00,12:60:00,12:00:60,99:99:99,12:00,1:00:00"}
	someMillis  = choice{",,.000,.001,.999", ",.25,.2500,.,:000"}
	someZones   = choice{",Z,+00:00,-00:00,+00:01,-00:01,+23:59,-23:59", ",+24:00,-00:60,+0100,+01,z,ZZ,+01:00Z"}
	someNames   = choice{",Jan,Feb,Feb,Mar,Apr,May,Jun,Jul,Aug,Sep,Oct,Nov,Dec", ",jan,Sept,,11,NOV"}
	someOffsets = choice{",+0000,-0000,+0001,-0001,+2359,-2359", ",+2400,-0060,+00:00,Z,0000,"}
	someBehind  = choice{",, , x,  x, \xff\n", ",x,\t"}
)

// one is a choice of a single text.
func one(right, wrong string) choice { return choice{"," + right, "," + wrong} }

// edges is a day and a time, with one of some middles between.
func edges(source *rand.Rand, middle choice) string {
	return picked(source, someYears, one("-", "/"), someMonths, one("-", ""), someDays, middle, someTimes, someMillis)
}

func TestReadEdges(t *testing.T) { // 12.3
	f := newForms()
	source := rand.New(rand.NewSource(123))
	right := 0
	for range 200000 {
		s := edges(source, choice{",T", ",t, ,"}) + someZones.pick(source)
		holdsRead(t, f, s)
		if _, e := Read(s); e == api.OK {
			right++
		}
	}
	if right < 50000 {
		t.Errorf("only %d are stamps", right)
	}
}

func TestAhead(t *testing.T) { // 12.4
	for _, c := range []struct {
		line string
		n    int
		rest string
	}{
		{"2026-11-15 12:00:00 up", noon, "up"}, {"2026-11-15T12:00:00 up", noon, "up"}, {"2026-11-15T12:00:00Z up", noon, "up"}, {"2026-11-15 12:00:00Z", noon, ""}, {"2026-11-15 12:00:00", noon, ""}, {"2026-11-15T12:00:00.250Z", noon + 250, ""}, {"2026-11-15T12:00:00.250  x", noon + 250, " x"}, {"2026-11-15 12:00:00 ", noon, ""}, {"2026-11-15 12:00:00  ", noon, " "},
		{"2026-11-15 12:00:00+01:00 x", noon - 3600000, "x"}, {"2026-11-15T12:00:00.001-01:00 x", noon + 3600001, "x"}, {"2026-11-15 12:00:00 +01:00 x", noon, "+01:00 x"}, {"2026-11-15 12:00:00 Z", noon, "Z"}, {"1970-01-01 00:00:00", 0, ""}, {"9999-12-31T23:59:59.999 x\ny\x00\xff", api.MaxStamp, "x\ny\x00\xff"},
		{"[15/Nov/2026:12:00:00 +0000] x", noon, "x"}, {"[15/Nov/2026:12:00:00 -0130]", noon + 5400000, ""}, {"[15/Nov/2026:12:00:00 +0130]  x", noon - 5400000, " x"}, {"[01/Jan/1970:23:59:00 +2359] ", 0, ""}, {"[31/Dec/9999:23:59:59 +0000] x", api.MaxStamp - 999, "x"}, {"[29/Feb/2000:00:00:00 -0000] x", 951782400000, "x"},
		{"1794744000  x", noon, " x"}, {"1794744000", noon, ""}, {"1794744000000", noon, ""}, {"1794744000250 1794744000250", noon + 250, "1794744000250"}, {"0000000000 ", 0, ""}, {"0000000000000", 0, ""}, {"9999999999 x", 9999999999000, "x"}, {"9999999999999 x", 9999999999999, "x"}, {"0000000001 x", 1000, "x"}, {"0000000000001 x", 1, "x"},
	} {
		if n, rest, ok := Ahead(c.line); n != c.n || rest != c.rest || !ok {
			t.Errorf("Ahead(%q): %d, %q, %v, want %d, %q", c.line, n, rest, ok, c.n, c.rest)
		}
	}
}

func TestAheadOfNone(t *testing.T) { // 12.4
	for _, line := range []string{
		"", " ", "x", "up since 2026-11-15 12:00:00", " 2026-11-15 12:00:00 x", " 1794744000", "2026-11-15 x", "2026-11-15", "2026-11-15  12:00:00 x", "2026-11-15T12:00 x", "2026-11-15t12:00:00 x", "2026-11-15_12:00:00 x",
		"2026-11-15T12:00:00x", "2026-11-15T12:00:00Zx", "2026-11-15T12:00:00\tx", "2026-11-15T12:00:00\n", "2026-11-15T12:00:00. x", "2026-11-15T12:00:00.25 x", "2026-11-15T12:00:00.2500 x", "2026-11-15T12:00:00,250 x", "2026-11-15T12:00:00+0130 x", "2026-11-15T12:00:00+01 x", "2026-11-15T12:00:00z x",
		"2026-11-31T12:00:00Z x", "2026-11-15T24:00:00 x", "2026-11-15T12:00:00+24:00 x", "2026-11-15T12:00:00+00:60 x", "1970-01-01T00:00:00+00:01 x", "9999-12-31T23:59:59-00:01 x", "1969-12-31T23:59:59-23:59 x", "10000-01-01 00:00:00 x",
		"[", "[]", "[15/Nov/2026:12:00:00] x", "[15/Nov/2026:12:00:00 +0000", "[15/Nov/2026:12:00:00 +0000 x", "[15/Nov/2026:12:00:00 +0000]x", "[15/nov/2026:12:00:00 +0000] x", "[15/NOV/2026:12:00:00 +0000] x", "[15/November/2026:12:00:00 +0000] x", "[15/11/2026:12:00:00 +0000] x", "[5/Nov/2026:12:00:00 +0000] x", "[15/Nov/26:12:00:00 +0000] x", "[15/Nov/2026 12:00:00 +0000] x", "[15/Nov/2026:12:00:00.250 +0000] x", "[15/Nov/2026:12:00:00 +00:00] x", "[15/Nov/2026:12:00:00 Z] x", "[15/Nov/2026:12:00:00 0000] x", "[15/Nov/2026:12:00:00+0000] x", "15/Nov/2026:12:00:00 +0000 x", "[2026-11-15 12:00:00] x", "[1794744000] x",
		"[31/Nov/2026:12:00:00 +0000] x", "[15/Nov/2026:24:00:00 +0000] x", "[15/Nov/2026:12:00:00 +2400] x", "[15/Nov/2026:12:00:00 +0060] x", "[01/Jan/1970:00:00:00 +0001] x", "[31/Dec/9999:23:59:59 -0001] x", "[29/Feb/2026:00:00:00 +0000] x",
		"1794744000x", "179474400 x", "17947440000 x", "179474400000 x", "17947440000000 x", "1794744000.250 x", "-1794744000 x", "+1794744000 x", "1794744000\tx", "1794744000000x", "179474400a x",
	} {
		if n, rest, ok := Ahead(line); n != 0 || rest != "" || ok {
			t.Errorf("Ahead(%q): %d, %q, %v", line, n, rest, ok)
		}
	}
}

func TestAheadOfEachMonth(t *testing.T) { // 12.4
	for i, name := range strings.Split(names, "|") {
		want, _ := Of(api.Date{Year: 2026, Month: i + 1, Day: 28, Hour: 12})
		if n, rest, ok := Ahead("[28/" + name + "/2026:12:00:00 +0000] " + name); n != want || rest != name || !ok {
			t.Errorf("%s: %d, %q, %v, want %d", name, n, rest, ok, want)
		}
		for _, wrong := range []string{strings.ToLower(name), strings.ToUpper(name), name[:2], name + "e", name[1:] + name[:1]} {
			if n, rest, ok := Ahead("[28/" + wrong + "/2026:12:00:00 +0000] x"); n != 0 || rest != "" || ok {
				t.Errorf("%s: %d, %q, %v", wrong, n, rest, ok)
			}
		}
	}
}

func TestAheadOfDigits(t *testing.T) { // 12.4: ten and thirteen digits, and no other number of them
	for size := range 20 {
		digits := strings.Repeat("1", size)
		for _, behind := range []string{"", " ", " x", "x", "-", ".", "\xff"} {
			want, rest, right := 0, "", false
			if (size == 10 || size == 13) && (behind == "" || behind[0] == ' ') {
				want, rest, right = 1111111111000, strings.TrimPrefix(behind, " "), true
				if size == 13 {
					want = 1111111111111
				}
			}
			if n, got, ok := Ahead(digits + behind); n != want || got != rest || ok != right {
				t.Errorf("Ahead(%q): %d, %q, %v, want %d, %q, %v", digits+behind, n, got, ok, want, rest, right)
			}
		}
	}
}

func TestAheadHurt(t *testing.T) { // 12.4
	f := newForms()
	for _, s := range stampTexts() {
		for _, behind := range []string{"", " ", " up", "  x"} {
			holdsAhead(t, f, s+behind)
			for other := range hurt(s + behind) {
				holdsAhead(t, f, other)
			}
		}
	}
}

func TestAheadEdges(t *testing.T) { // 12.4
	f := newForms()
	source := rand.New(rand.NewSource(124))
	right := 0
	for range 200000 {
		line := edges(source, choice{",T, ", ",t,  ,"})
		if source.Intn(2) == 0 {
			line += someZones.pick(source)
		}
		line += someBehind.pick(source)
		holdsAhead(t, f, line)
		if _, _, ok := Ahead(line); ok {
			right++
		}
	}
	if right < 50000 {
		t.Errorf("only %d begin with a stamp", right)
	}
}

func TestAheadBrackets(t *testing.T) { // 12.4
	f := newForms()
	source := rand.New(rand.NewSource(125))
	right := 0
	for range 200000 {
		line := picked(source, one("[", ""), someDays, one("/", "-"), someNames, one("/", ""), someYears, one(":", " "), someTimes, one(" ", ""), someOffsets, one("]", ""), someBehind)
		holdsAhead(t, f, line)
		if _, _, ok := Ahead(line); ok {
			right++
		}
	}
	if right < 50000 {
		t.Errorf("only %d begin with a stamp", right)
	}
}

func TestAnyBytes(t *testing.T) { // P1
	f := newForms()
	source := rand.New(rand.NewSource(1))
	for range 200000 {
		s := anyText(source, source.Intn(40))
		holdsRead(t, f, s)
		holdsAhead(t, f, s)
		holdsSpan(t, f, s)
	}
}

func TestRestIsNew(t *testing.T) { // P3
	for _, s := range stampTexts() {
		line := s + " " + strings.Repeat("what follows ", 10)
		_, rest, ok := Ahead(line)
		if !ok || unsafe.StringData(rest) == unsafe.StringData(line[len(s)+1:]) {
			t.Errorf("what follows %q shares memory with the line: %v", s, ok)
		}
	}
}
