package fields

import (
	"math/big"
	"math/rand"
	"slices"
	"strconv"
	"strings"
	"testing"

	"dragnet/api"
)

// holdsNumber holds Number against the chapter's words, and tells whether it is one.
func holdsNumber(t *testing.T, s string) bool {
	t.Helper()
	n, ok := Number(s)
	want, is := plainNumber(s)
	if ok != is || is && thousandths(n).Cmp(want) != 0 || !is && n != 0 {
		t.Fatalf("Number(%q): %d, %v, want %v, %v", s, n, ok, want, is)
	}
	return is
}

func TestNumber(t *testing.T) { // 14.2
	for s, want := range map[string]int{"1.500": 1500, "1.5": 1500, "1.50": 1500, "-0": 0, "0": 0, "-0.000": 0, "-0.07": -70, "007": 7000, "0.001": 1, "-0.001": -1, "0.01": 10, "0.010": 10, "000000000": 0, "000000001.100": 1100, "999999999.999": 999999999999, "-999999999.999": -999999999999, "999999999": 999999999000, "123456789.012": 123456789012, "-00.10": -100} {
		if n, ok := Number(s); n != want || !ok {
			t.Errorf("Number(%q): %d, %v, want %d", s, n, ok, want)
		}
	}
	for _, s := range []string{"", "1.", ".5", "-.5", "+1", "1.2345", "1.0000", "1e3", "1E3", "1234567890", "0000000000", "-", "--1", "-+1", "1-", ".", "-.", "1..2", "1.2.3", "1.-2", "1.+2", " 1", "1 ", "1\n", "1\x00", "0x1", "1_0", "1_000", "1,5", "\u0661", "\xff", "a", "NaN", "Inf", "-Inf", "1.2a", "a1", "9999999999.9", strings.Repeat("1", 1000), strings.Repeat("0", 1<<20), "1." + strings.Repeat("0", 1000), "18446744073709551616", "-9223372036854775808"} {
		if n, ok := Number(s); n != 0 || ok {
			t.Errorf("Number(%.60q): %d, %v", s, n, ok)
		}
	}
}

func TestNumberOfMany(t *testing.T) { // 14.2
	found := 0
	count := func(s string) {
		if holdsNumber(t, s) {
			found++
		}
	}
	for s := range shortTexts([]string{"0", "1", "9", "-", ".", "+", "e", " "}, 5) {
		count(s)
	}
	for b := range 256 {
		c := string([]byte{byte(b)})
		for _, s := range []string{c, c + "1", "1" + c, "1" + c + "2", "-" + c, "1." + c, "1." + c + "2", "1.23" + c, "12345678" + c, "123456789" + c} {
			count(s)
		}
	}
	r := rand.New(rand.NewSource(142))
	for range 50000 {
		whole, parts := anyPieces(r, []string{"0", "1", "5", "8", "9"}, r.Intn(12)), anyPieces(r, []string{"0", "1", "4", "7", "9"}, r.Intn(5))
		for _, s := range []string{whole, "-" + whole, whole + "." + parts, "-" + whole + "." + parts} {
			count(s)
		}
	}
	if found < 50000 {
		t.Errorf("%d numbers", found)
	}
}

func TestShow(t *testing.T) { // 14.2
	for n, want := range map[int]string{1500: "1.5", -70: "-0.07", 7000: "7", 0: "0", 1: "0.001", -1: "-0.001", 10: "0.01", 100: "0.1", 120: "0.12", 999: "0.999", 1000: "1", 1001: "1.001", 1010: "1.01", 10000: "10", 100000000: "100000", -1000: "-1", 999999999999: "999999999.999", -999999999999: "-999999999.999", 999999999000: "999999999",
		1000000000000: "", -1000000000000: "", greatest: "", least: "", least + 1: ""} {
		if got := Show(n); got != want {
			t.Errorf("Show(%d): %q, want %q", n, got, want)
		}
	}
}

// someThousandths is the edges, all near 0, and many others.
func someThousandths() []int {
	all := []int{api.MaxValue, -api.MaxValue, api.MaxValue - 1, 1 - api.MaxValue}
	for n := -12000; n <= 12000; n++ {
		all = append(all, n)
	}
	for unit := 1; unit <= api.MaxValue; unit *= 10 {
		for times := 1; times <= 9; times++ {
			for off := -2; off <= 2; off++ {
				all = append(all, unit*times+off, -unit*times+off)
			}
		}
	}
	r := rand.New(rand.NewSource(1420))
	for range 50000 {
		all = append(all, (r.Intn(2*api.MaxValue+1)-api.MaxValue)>>r.Intn(30))
	}
	return slices.DeleteFunc(all, func(n int) bool { return n > api.MaxValue || n < -api.MaxValue })
}

func TestThereAndBack(t *testing.T) { // 14.2, 14.5
	for _, n := range someThousandths() {
		s := Show(n)
		if got, ok := Number(s); got != n || !ok {
			t.Fatalf("Number of Show(%d), %q: %d, %v", n, s, got, ok)
		}
		if x, ok := new(big.Rat).SetString(s); !ok || x.Cmp(thousandths(n)) != 0 || !shownForm.MatchString(s) || s == "-0" {
			t.Fatalf("Show(%d): %q", n, s)
		}
	}
}

func TestShowIsTheShortest(t *testing.T) { // 14.2
	short := map[int]string{}
	for s := range shortTexts([]string{"0", "1", "2", "7", "9", "-", "."}, 6) { // the shorter ones come ahead
		n, ok := Number(s)
		if !ok {
			continue
		}
		if _, is := short[n]; !is {
			short[n] = s
		}
	}
	for n, s := range short {
		if got := Show(n); got != s {
			t.Fatalf("Show(%d): %q, want %q", n, got, s)
		}
	}
	if len(short) < 3000 {
		t.Errorf("%d numbers", len(short))
	}
}

func TestIsExamples(t *testing.T) { // 14.3
	for _, c := range []struct {
		value string
		op    int
		want  string
		is    bool
	}{
		{"10", api.OpBelow, "9", false}, {"10", api.OpBelow, "9x", true}, {"1.0", api.OpIs, "1", true}, {"1.0", api.OpNot, "1", false}, {"-0", api.OpIs, "0", true}, {"1.", api.OpIs, "1", false}, {"1234567890", api.OpBelow, "9", true}, {"1234567890", api.OpBelow, "9.0", true}, {"-2", api.OpBelow, "-1", true}, {"-1", api.OpBelow, "-2", false}, {"-1", api.OpBelow, "-2x", true},
		{"ab", api.OpHas, "", true}, {"", api.OpHas, "", true}, {"", api.OpHas, "a", false}, {"ab", api.OpHas, "b", true}, {"ab", api.OpHas, "ab", true}, {"ab", api.OpHas, "abc", false}, {"ab", api.OpHas, "B", false}, {"1.0", api.OpHas, "1", true}, {"1", api.OpHas, "1.0", false},
		{"2", api.OpMost, "2.000", true}, {"2", api.OpLeast, "2.000", true}, {"2", api.OpAbove, "10", false}, {"2", api.OpAbove, "10x", true}, {"b", api.OpAbove, "a", true}, {"a", api.OpMost, "a", true}, {"a", api.OpLeast, "b", false}, {"\xff", api.OpAbove, "\x7f", true}, {"", api.OpBelow, "a", true}, {"a", api.OpBelow, "ab", true}, {"B", api.OpBelow, "a", true}, {"a", api.OpNot, "A", true},
		{"a", 0, "a", false}, {"a", 8, "a", false}, {"a", -1, "a", false}, {"a", greatest, "a", false}, {"a", least, "a", false}, {"1", 0, "2", false},
	} {
		if Is(c.value, c.op, c.want) != c.is {
			t.Errorf("Is(%q, %d, %q): not %v", c.value, c.op, c.want, c.is)
		}
	}
}

func TestIs(t *testing.T) { // 14.3, 14.5
	ops := append([]int{least, -7, -1, 0, 8, 9, 100, greatest, 256 + api.OpIs, 1<<32 + api.OpIs}, allOps...)
	for _, value := range someValues() {
		for _, want := range someValues() {
			for _, op := range ops {
				if is := plainIs(value, op, want); Is(value, op, want) != is {
					t.Fatalf("Is(%q, %d, %q): not %v", value, op, want, is)
				}
			}
			holdsOrder(t, value, want)
		}
	}
	r := rand.New(rand.NewSource(143))
	for range 20000 {
		pieces := []string{"0", "1", "9", ".", "-", "a", "\xff"}
		value, want := anyPieces(r, pieces, r.Intn(6)), anyPieces(r, pieces, r.Intn(4))
		for _, op := range allOps {
			if is := plainIs(value, op, want); Is(value, op, want) != is {
				t.Fatalf("Is(%q, %d, %q): not %v", value, op, want, is)
			}
		}
		holdsOrder(t, value, want)
	}
}

// holdsOrder: just one of three comparisons holds, and the others are what these are not.
func holdsOrder(t *testing.T, value, want string) {
	t.Helper()
	held := 0
	for _, op := range []int{api.OpBelow, api.OpIs, api.OpAbove} {
		if Is(value, op, want) {
			held++
		}
	}
	if held != 1 || Is(value, api.OpNot, want) == Is(value, api.OpIs, want) || Is(value, api.OpMost, want) == Is(value, api.OpAbove, want) || Is(value, api.OpLeast, want) == Is(value, api.OpBelow, want) {
		t.Fatalf("%q and %q: %d of below, is and above hold", value, want, held)
	}
}

func TestIsNumbers(t *testing.T) { // 14.3
	r := rand.New(rand.NewSource(1430))
	all := someThousandths()
	for range 20000 {
		m := all[r.Intn(len(all))]
		n := m + r.Intn(3) - 1
		if n > api.MaxValue || n < -api.MaxValue {
			continue
		}
		a, b := Show(m), Show(n)
		if strings.Contains(b, ".") {
			b += strings.Repeat("0", 4-len(b)+strings.Index(b, "."))
		}
		if Is(a, api.OpBelow, b) != (m < n) || Is(a, api.OpIs, b) != (m == n) || Is(a, api.OpAbove, b) != (m > n) {
			t.Fatalf("%q and %q", a, b)
		}
	}
}

func TestLessExamples(t *testing.T) { // 14.4
	for _, c := range []struct {
		a, b string
		is   bool
	}{
		{"10", "9", false}, {"9", "10", true}, {"9", "a", true}, {"a", "9", false}, {"1", "1.0", true}, {"1.0", "1", false}, {"1", "1", false}, {"-0", "0", true}, {"0", "-0", false}, {"-1", "-2", false}, {"-2", "-1", true}, {"999999999", "", true}, {"", "-5", false}, {"1234567890", "2", false}, {"2", "1234567890", true}, {"1234567890", "2x", true}, {"a", "b", true}, {"b", "a", false}, {"a", "a", false}, {"", "", false}, {"", "a", true}, {"B", "a", true}, {"\x7f", "\xff", true}, {"a", "ab", true}, {"01", "1", true},
	} {
		if Less(c.a, c.b) != c.is {
			t.Errorf("Less(%q, %q): not %v", c.a, c.b, c.is)
		}
	}
}

func TestLess(t *testing.T) { // 14.4, 14.5
	values := someValues()
	r := rand.New(rand.NewSource(144))
	for range 60 {
		values = append(values, anyPieces(r, []string{"0", "1", "9", ".", "-", "a"}, 1+r.Intn(4)), strconv.Itoa(r.Intn(100)))
	}
	for _, a := range values {
		for _, b := range values {
			is := Less(a, b)
			if is != plainLess(a, b) || is && Less(b, a) || a != b && !is && !Less(b, a) || a == b && is {
				t.Fatalf("Less(%q, %q): %v, the other way round %v", a, b, is, Less(b, a))
			}
			if !is {
				continue
			}
			for _, c := range values {
				if Less(b, c) && !Less(a, c) {
					t.Fatalf("%q is Less than %q, that than %q, but the first not than the last", a, b, c)
				}
			}
		}
	}
}
