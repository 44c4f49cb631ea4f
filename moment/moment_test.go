package moment

import (
	"math/rand"
	"slices"
	"testing"
	"time"

	"dragnet/api"
)

func TestOfAndDate(t *testing.T) { // 12.1
	for _, c := range []struct {
		d    api.Date
		n, w int
	}{
		{api.Date{Year: 1970, Month: 1, Day: 1}, 0, 4},
		{api.Date{Year: 1970, Month: 1, Day: 1, Milli: 1}, 1, 4},
		{api.Date{Year: 1970, Month: 1, Day: 1, Second: 1}, 1000, 4},
		{api.Date{Year: 1970, Month: 1, Day: 1, Minute: 1}, 60000, 4},
		{api.Date{Year: 1970, Month: 1, Day: 1, Hour: 1}, 3600000, 4},
		{api.Date{Year: 1970, Month: 1, Day: 1, Hour: 23, Minute: 59, Second: 59, Milli: 999}, 86399999, 4},
		{api.Date{Year: 1970, Month: 1, Day: 2}, 86400000, 5},
		{api.Date{Year: 1970, Month: 12, Day: 31}, 364 * dayLong, 4},
		{api.Date{Year: 1971, Month: 1, Day: 1}, 365 * dayLong, 5},
		{api.Date{Year: 1972, Month: 12, Day: 31}, 1095 * dayLong, 0},
		{api.Date{Year: 2000, Month: 2, Day: 29}, 951782400000, 2},
		{api.Date{Year: 2000, Month: 3, Day: 1}, 951868800000, 3},
		{api.Date{Year: 2026, Month: 11, Day: 15, Hour: 12, Milli: 250}, 1794744000250, 0},
		{api.Date{Year: 2100, Month: 2, Day: 28}, 4107456000000, 0},
		{api.Date{Year: 2100, Month: 3, Day: 1}, 4107542400000, 1},
		{api.Date{Year: 9999, Month: 12, Day: 31, Hour: 23, Minute: 59, Second: 59, Milli: 999}, 253402300799999, 5},
	} {
		if n, e := Of(c.d); n != c.n || e != api.OK {
			t.Errorf("Of(%v): %d, %v, want %d", c.d, n, e, c.n)
		}
		if d, e := Date(c.n); d != c.d || e != api.OK {
			t.Errorf("Date(%d): %v, %v, want %v", c.n, d, e, c.d)
		}
		if w, e := Weekday(c.n); w != c.w || e != api.OK {
			t.Errorf("Weekday(%d): %d, %v, want %d", c.n, w, e, c.w)
		}
	}
}

func TestEachDay(t *testing.T) { // 12.1, 12.7: at its first and its last millisecond, and at one between
	days := 0
	for number, p := range calendar() {
		days++
		between := 1 + number*7919%86399998
		for _, time := range []int{0, between, 86399999} {
			stamp := number*dayLong + time
			want := api.Date{Year: p.year, Month: p.month, Day: p.day, Hour: time / 3600000, Minute: time / 60000 % 60, Second: time / 1000 % 60, Milli: time % 1000}
			if d, e := Date(stamp); d != want || e != api.OK {
				t.Fatalf("Date(%d): %v, %v, want %v", stamp, d, e, want)
			}
			if n, e := Of(want); n != stamp || e != api.OK {
				t.Fatalf("Of(%v): %d, %v, want %d", want, n, e, stamp)
			}
			if w, e := Weekday(stamp); w != p.week || e != api.OK {
				t.Fatalf("Weekday(%d): %d, %v, want %d", stamp, w, e, p.week)
			}
		}
	}
	if days*dayLong-1 != api.MaxStamp {
		t.Errorf("%d days", days)
	}
}

func TestOfEachMonth(t *testing.T) { // 12.1: a month's last day, and the one that there is not
	for year := 1970; year <= 9999; year++ {
		for month := 1; month <= 12; month++ {
			last := plainMonth(year, month)
			for day, want := range map[int]api.Errno{-1: api.ErrDate, 0: api.ErrDate, 1: api.OK, last: api.OK, last + 1: api.ErrDate, 32: api.ErrDate} {
				if n, e := Of(api.Date{Year: year, Month: month, Day: day}); e != want || e != api.OK && n != 0 {
					t.Fatalf("Of %d-%d-%d: %d, %v, want %v", year, month, day, n, e, want)
				}
			}
		}
	}
}

func TestOfRefuses(t *testing.T) { // 12.1: each number's ends, and what is beyond them
	right := api.Date{Year: 2024, Month: 2, Day: 29, Hour: 1, Minute: 2, Second: 3, Milli: 4}
	fields := func(d *api.Date) []*int {
		return []*int{&d.Year, &d.Month, &d.Day, &d.Hour, &d.Minute, &d.Second, &d.Milli}
	}
	for i, bounds := range [][2]int{{1970, 9999}, {1, 12}, {1, 29}, {0, 23}, {0, 59}, {0, 59}, {0, 999}} {
		for _, n := range []int{bounds[0], bounds[1], bounds[0] - 1, bounds[1] + 1, -bounds[1], bounds[1] + 1<<32, least, greatest} {
			d := right
			*fields(&d)[i] = n
			if i == 0 {
				d.Day = 28
			}
			want := api.OK
			if n < bounds[0] || n > bounds[1] {
				want = api.ErrDate
			}
			if got, e := Of(d); e != want || e != api.OK && got != 0 {
				t.Errorf("Of(%v): %d, %v, want %v", d, got, e, want)
			}
		}
	}
	for _, d := range []api.Date{{}, {Year: 1969, Month: 12, Day: 31, Hour: 23}, {Year: 10000, Month: 1, Day: 1}, {Year: 2026, Month: 2, Day: 29}, {Year: 2100, Month: 2, Day: 29}, {Year: 1972, Month: 2, Day: 30}, {Year: least, Month: least, Day: least, Hour: least, Minute: least, Second: least, Milli: least}, {Year: greatest, Month: greatest, Day: greatest, Hour: greatest, Minute: greatest, Second: greatest, Milli: greatest}} {
		if got, e := Of(d); got != 0 || e != api.ErrDate {
			t.Errorf("Of(%v): %d, %v", d, got, e)
		}
	}
}

func TestNoStamps(t *testing.T) { // 12.1, 12.2, 12.6
	for _, n := range noStamps() {
		if d, e := Date(n); d != (api.Date{}) || e != api.ErrStamp {
			t.Errorf("Date(%d): %v, %v", n, d, e)
		}
		if w, e := Weekday(n); w != 0 || e != api.ErrStamp {
			t.Errorf("Weekday(%d): %d, %v", n, w, e)
		}
		if s, e := Show(n); s != "" || e != api.ErrStamp {
			t.Errorf("Show(%d): %q, %v", n, s, e)
		}
		for _, width := range append(noStamps(), 0, 1, 60000, api.MaxStamp) {
			if b, e := Bucket(n, width); b != 0 || e != api.ErrStamp {
				t.Errorf("Bucket(%d, %d): %d, %v", n, width, b, e)
			}
		}
	}
}

func TestShow(t *testing.T) { // 12.2
	for n, want := range map[int]string{0: "1970-01-01T00:00:00.000Z", 7: "1970-01-01T00:00:00.007Z", noon + 250: "2026-11-15T12:00:00.250Z", 951782400000: "2000-02-29T00:00:00.000Z", api.MaxStamp: "9999-12-31T23:59:59.999Z"} {
		if s, e := Show(n); s != want || e != api.OK {
			t.Errorf("Show(%d): %q, %v, want %q", n, s, e, want)
		}
	}
	for _, n := range someStamps(122) {
		want := time.UnixMilli(int64(n)).UTC().Format("2006-01-02T15:04:05.000Z")
		if s, e := Show(n); s != want || len(s) != 24 || e != api.OK {
			t.Fatalf("Show(%d): %q, %v, want %q", n, s, e, want)
		}
	}
}

func TestBucket(t *testing.T) { // 12.6
	for _, c := range []struct{ stamp, width, want int }{
		{noon + 250, 60000, noon}, {noon + 59999, 60000, noon}, {noon - 1, 60000, noon - 60000}, {noon, 1, noon}, {noon + 250, 1000, noon}, {0, 1, 0}, {0, api.MaxStamp, 0}, {noon, api.MaxStamp, 0},
		{api.MaxStamp, api.MaxStamp, api.MaxStamp}, {api.MaxStamp - 1, api.MaxStamp, 0}, {api.MaxStamp, dayLong, api.MaxStamp - dayLong + 1}, {9, 10, 0}, {10, 10, 10}, {11, 7, 7}, {14, 7, 14},
	} {
		if b, e := Bucket(c.stamp, c.width); b != c.want || e != api.OK {
			t.Errorf("Bucket(%d, %d): %d, %v, want %d", c.stamp, c.width, b, e, c.want)
		}
	}
	for _, width := range append(noStamps(), 0) {
		if b, e := Bucket(noon, width); b != 0 || e != api.ErrSpan {
			t.Errorf("Bucket of the width %d: %d, %v", width, b, e)
		}
	}
	source := rand.New(rand.NewSource(126))
	for _, n := range someStamps(126) {
		width := 1 + source.Intn(api.MaxStamp)>>source.Intn(48)
		if b, e := Bucket(n, width); b%width != 0 || b < 0 || b > n || n-b >= width || e != api.OK {
			t.Fatalf("Bucket(%d, %d): %d, %v", n, width, b, e)
		}
	}
}

func TestThereAndBack(t *testing.T) { // 12.7
	for _, n := range someStamps(127) {
		d, _ := Date(n)
		if got, e := Of(d); got != n || e != api.OK {
			t.Fatalf("Of of Date(%d): %d, %v", n, got, e)
		}
		if again, e := Date(n); again != d || e != api.OK { // P4
			t.Fatalf("Date(%d): %v, then %v, %v", n, d, again, e)
		}
		s, _ := Show(n)
		if got, e := Read(s); got != n || e != api.OK {
			t.Fatalf("Read(%q): %d, %v, want %d", s, got, e, n)
		}
		if n == 0 {
			continue
		}
		s, _ = Spell(n)
		if got, e := Span(s); got != n || e != api.OK {
			t.Fatalf("Span(%q): %d, %v, want %d", s, got, e, n)
		}
	}
}

func TestNextDay(t *testing.T) { // 12.7
	for _, n := range someStamps(128) {
		if n > api.MaxStamp-dayLong {
			continue
		}
		today, _ := Weekday(n)
		if next, e := Weekday(n + dayLong); next != (today+1)%7 || e != api.OK {
			t.Fatalf("Weekday(%d): %d, a day later %d, %v", n, today, next, e)
		}
	}
}

func TestShowRises(t *testing.T) { // 12.7
	stamps := someStamps(129)
	slices.Sort(stamps)
	last := ""
	for _, n := range slices.Compact(stamps) {
		s, _ := Show(n)
		if s <= last {
			t.Fatalf("Show(%d) is %q, that of one below it %q", n, s, last)
		}
		last = s
	}
}

func TestAheadOfShow(t *testing.T) { // 12.7
	source := rand.New(rand.NewSource(1270))
	for _, n := range someStamps(1270) {
		s, _ := Show(n)
		behind := anyText(source, source.Intn(30))
		if got, rest, ok := Ahead(s + " " + behind); got != n || rest != behind || !ok {
			t.Fatalf("Ahead(%q): %d, %q, %v", s+" "+behind, got, rest, ok)
		}
	}
}
