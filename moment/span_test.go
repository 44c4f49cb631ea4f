package moment

import (
	"math/rand"
	"strconv"
	"strings"
	"testing"

	"dragnet/api"
)

func TestSpan(t *testing.T) { // 12.5
	for s, want := range map[string]int{
		"1d": 86400000, "1h": 3600000, "1m": 60000, "1s": 1000, "1ms": 1, "1h30m": 5400000, "90m": 5400000, "5ms": 5, "1d1ms": 86400001, "1m1s1ms": 61001, "1m1ms": 60001, "1d1h1m1s1ms": 90061001, "100000ms": 100000, "25h": 90000000, "1d100h": 446400000, "1s5000ms": 6000, "10s": 10000, "20h5s": 72005000,
		"2932896d23h59m59s999ms": api.MaxStamp, "253402300799999ms": api.MaxStamp, "253402300799s999ms": api.MaxStamp, "2932896d": 2932896 * dayLong, "4223371679m59s999ms": api.MaxStamp, "2932896d86399999ms": api.MaxStamp,
	} {
		if n, e := Span(s); n != want || e != api.OK {
			t.Errorf("Span(%q): %d, %v, want %d", s, n, e, want)
		}
	}
}

func TestSpanRefuses(t *testing.T) { // 12.5
	for _, s := range []string{
		"", "5", "m", "ms", "d1", "1h30", "0s", "00s", "05s", "0ms", "1h0m", "1h05m", "1mm", "1mss", "1sm", "1dh", "5M", "5MS", "5Ms", "5mS", "5w", "5us", "5sec", "5 s", " 5s", "5s ", "1h ", "1h 30m", "-1s", "+1s", "1.5s", "1,5s", "1e3s", "٣s", "5s\n", "5\x00s", "5s\xff",
		// Units that don't fall.
		"5s1m", "1m1m", "1ms1s", "1ms1ms", "1ms1m", "1h1d", "1d1d", "1s1s", "1h1m1h", "1d1h1m1s1ms1ms", "1s1h1m",
		// Above MaxStamp.
		"2932897d", "2932896d24h", "253402300800000ms", "253402300800s", "2932896d23h59m59s1000ms", "2932896d86400000ms", "999999999999999ms", "999999999999999d", "106751991168d", "213503982335d", "999999999999999d999999999999999h999999999999999m999999999999999s999999999999999ms",
		// More than 15 digits.
		"1000000000000000ms", "0000000000000001ms", "18446744073709551617ms", "1h1000000000000000ms", strings.Repeat("9", 1000) + "ms", strings.Repeat("1", 400) + "s",
	} {
		if n, e := Span(s); n != 0 || e != api.ErrSpan {
			t.Errorf("Span(%q): %d, %v", s, n, e)
		}
	}
}

func TestSpanSpelt(t *testing.T) { // 12.5: all short texts
	f := newForms()
	for _, s := range spelt("01dhms", 6) {
		holdsSpan(t, f, s)
	}
	for _, s := range spelt("9ms ", 7) {
		holdsSpan(t, f, s)
	}
}

func TestSpanHurt(t *testing.T) { // 12.5
	f := newForms()
	for _, s := range []string{"1d2h3m4s5ms", "2932896d23h59m59s999ms", "253402300799999ms", "90m", "1m5ms"} {
		for other := range hurt(s) {
			holdsSpan(t, f, other)
		}
	}
}

func TestSpanParts(t *testing.T) { // 12.5: parts with numbers of every length
	f := newForms()
	source := rand.New(rand.NewSource(1255))
	right := 0
	for range 200000 {
		s := ""
		for _, unit := range []string{"d", "h", "m", "s", "ms"} {
			if source.Intn(2) == 0 {
				continue
			}
			most := 1
			for range 1 + source.Intn(1+source.Intn(17)) {
				most *= 10
			}
			s += strconv.Itoa(source.Intn(most)) + pick(source, []string{unit, unit, unit, unit, unit, unit, unit, unit, unit, unit, unit, unit, "m", "s", ""})
		}
		holdsSpan(t, f, s)
		if _, e := Span(s); e == api.OK {
			right++
		}
	}
	if right < 10000 {
		t.Errorf("only %d are spans", right)
	}
}

func TestSpanAtItsMost(t *testing.T) { // 12.5: MaxStamp is a span, however it is parted, and one above it is none
	source := rand.New(rand.NewSource(1256))
	for range 20000 {
		s, left := "", api.MaxStamp
		for i, unit := range []int{86400000, 3600000, 60000, 1000} {
			if count := source.Intn(left/unit + 1); count > 0 {
				s += strconv.Itoa(count) + []string{"d", "h", "m", "s"}[i]
				left -= count * unit
			}
		}
		if left == 0 {
			continue
		}
		if n, e := Span(s + strconv.Itoa(left) + "ms"); n != api.MaxStamp || e != api.OK {
			t.Fatalf("Span(%s%dms): %d, %v", s, left, n, e)
		}
		if n, e := Span(s + strconv.Itoa(left+1) + "ms"); n != 0 || e != api.ErrSpan {
			t.Fatalf("Span(%s%dms): %d, %v", s, left+1, n, e)
		}
	}
}

func TestSpell(t *testing.T) { // 12.5
	for n, want := range map[int]string{
		1: "1ms", 999: "999ms", 1000: "1s", 1001: "1s1ms", 59999: "59s999ms", 60000: "1m", 60001: "1m1ms", 3599999: "59m59s999ms", 3600000: "1h", 5400000: "1h30m", 86399999: "23h59m59s999ms", 86400000: "1d", 86400001: "1d1ms", 90000000: "1d1h", 8640000000: "100d", 36001000: "10h1s",
		api.MaxStamp: "2932896d23h59m59s999ms", api.MaxStamp - 999: "2932896d23h59m59s",
	} {
		if s, e := Spell(n); s != want || e != api.OK {
			t.Errorf("Spell(%d): %q, %v, want %q", n, s, e, want)
		}
	}
	for _, n := range append(noStamps(), 0) {
		if s, e := Spell(n); s != "" || e != api.ErrSpan {
			t.Errorf("Spell(%d): %q, %v", n, s, e)
		}
	}
}

func TestSpellFewOfEach(t *testing.T) { // 12.5: the one text with so few of each unit
	f := newForms()
	for _, n := range someStamps(1257) {
		if n == 0 {
			continue
		}
		s, e := Spell(n)
		m := f.span.FindStringSubmatch(s)
		if e != api.OK || m == nil || number(m[2]) >= 24 || number(m[3]) >= 60 || number(m[4]) >= 60 || number(m[5]) >= 1000 {
			t.Fatalf("Spell(%d): %q, %v", n, s, e)
		}
		if got, why := f.plainSpan(s); got != n || why != api.OK {
			t.Fatalf("Spell(%d): %q, which is %d, %v", n, s, got, why)
		}
	}
}
