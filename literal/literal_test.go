package literal

import (
	"slices"
	"strings"
	"testing"

	"dragnet/api"
)

func TestCompileRefuses(t *testing.T) { // 6.1
	for _, c := range []struct {
		pattern string
		fold    bool
		kernel  int
		want    api.Errno
	}{
		{"", false, api.KernelAuto, api.ErrPattern}, {"", true, api.KernelWide, api.ErrPattern},
		{strings.Repeat("x", 257), false, api.KernelAuto, api.ErrPattern}, {strings.Repeat("x", 257), true, api.KernelHorspool, api.ErrPattern},
		{strings.Repeat("x", 100000), true, api.KernelWide, api.ErrPattern},
		{"", false, 6, api.ErrPattern}, {"", false, -1, api.ErrPattern}, {"", false, api.KernelPair, api.ErrPattern},
		{strings.Repeat("x", 257), false, 6, api.ErrPattern}, {strings.Repeat("x", 257), false, api.KernelShift, api.ErrPattern},
		{"ab", false, api.KernelByte, api.ErrKernel}, {"ab", true, api.KernelByte, api.ErrKernel},
		{"a", false, api.KernelPair, api.ErrKernel}, {"a", true, api.KernelPair, api.ErrKernel},
		{strings.Repeat("x", 65), true, api.KernelShift, api.ErrKernel}, {strings.Repeat("x", 65), false, api.KernelShift, api.ErrKernel},
		{strings.Repeat("x", 256), false, api.KernelShift, api.ErrKernel},
		{"a", false, 6, api.ErrKernel}, {"a", false, -1, api.ErrKernel}, {"ab", true, greatest, api.ErrKernel}, {"ab", true, least, api.ErrKernel},
	} {
		if f, e := Compile(c.pattern, c.fold, c.kernel); f != nil || e != c.want {
			t.Errorf("Compile of %d bytes, %v, %d: %v, %v, want %v", len(c.pattern), c.fold, c.kernel, f, e, c.want)
		}
	}
}

func TestCompileTakesWhatSuits(t *testing.T) { // 6.1
	for length := 1; length <= api.MaxPattern; length++ {
		suits := plainSuits(length)
		pattern := strings.Repeat("\x00", length)
		for _, fold := range []bool{false, true} {
			for kernel := api.KernelByte; kernel <= api.KernelWide; kernel++ {
				f, e := Compile(pattern, fold, kernel)
				if !slices.Contains(suits, kernel) {
					if f != nil || e != api.ErrKernel {
						t.Errorf("Compile of %d bytes, %v, %d: %v", length, fold, kernel, e)
					}
					continue
				}
				if f == nil || e != api.OK || f.Kernel() != kernel {
					t.Errorf("Compile of %d bytes, %v, %d: %v", length, fold, kernel, e)
				}
			}
		}
	}
}

func TestChoose(t *testing.T) { // 6.1
	for _, c := range []struct {
		pattern string
		fold    bool
		want    int
	}{
		{"", false, api.KernelAuto}, {"", true, api.KernelAuto}, {strings.Repeat("x", 257), false, api.KernelAuto}, {strings.Repeat("x", 257), true, api.KernelAuto},
		{"a", false, api.KernelByte}, {"a", true, api.KernelByte}, {"\xff", true, api.KernelByte},
		{"ab", false, api.KernelPair}, {"ab", true, api.KernelShift}, {"seven b", false, api.KernelPair}, {"seven b", true, api.KernelShift},
		{"eight by", false, api.KernelHorspool}, {"eight by", true, api.KernelShift},
		{strings.Repeat("x", 64), false, api.KernelHorspool}, {strings.Repeat("x", 64), true, api.KernelShift},
		{strings.Repeat("x", 65), false, api.KernelHorspool}, {strings.Repeat("x", 65), true, api.KernelWide},
		{strings.Repeat("x", 256), false, api.KernelHorspool}, {strings.Repeat("x", 256), true, api.KernelWide},
	} {
		if k := Choose(c.pattern, c.fold); k != c.want {
			t.Errorf("Choose of %d bytes, %v: %d, want %d", len(c.pattern), c.fold, k, c.want)
		}
	}
}

func TestAutoIsWhatIsChosen(t *testing.T) { // 6.1
	for length := 1; length <= api.MaxPattern; length++ {
		for _, fold := range []bool{false, true} {
			pattern := strings.Repeat("x", length)
			f, e := Compile(pattern, fold, api.KernelAuto)
			if e != api.OK || f == nil {
				t.Fatalf("Compile of %d bytes, %v: %v", length, fold, e)
			}
			if f.Kernel() == api.KernelAuto || f.Kernel() != Choose(pattern, fold) {
				t.Errorf("of %d bytes, %v: Kernel = %d, Choose = %d", length, fold, f.Kernel(), Choose(pattern, fold))
			}
			if at := f.Find("--"+pattern, 0); at != 2 {
				t.Errorf("of %d bytes, %v: Find = %d", length, fold, at)
			}
		}
	}
}

func TestFind(t *testing.T) { // 6.2
	for _, f := range finders(t, "bc", false) {
		for _, c := range []struct{ from, want int }{
			{0, 1}, {1, 1}, {2, 4}, {4, 4}, {5, -1}, {6, -1}, {7, -1}, {-3, 1}, {least, 1}, {greatest, -1}, {greatest - 1, -1},
		} {
			if at := f.Find("abcabc", c.from); at != c.want {
				t.Errorf("kernel %d: Find(abcabc, %d) of bc = %d, want %d", f.Kernel(), c.from, at, c.want)
			}
		}
	}
}

func TestAllAndCount(t *testing.T) { // 6.2
	for _, c := range []struct {
		pattern string
		fold    bool
		s       string
		all     []int
		count   int
	}{
		{"aa", false, "aaaa", []int{0, 1, 2}, 2}, {"aa", false, "aaaaa", []int{0, 1, 2, 3}, 2}, {"a", false, "aaaa", []int{0, 1, 2, 3}, 4},
		{"aba", false, "ababababa", []int{0, 2, 4, 6}, 2}, {"aa", false, "", nil, 0}, {"aa", false, "a", nil, 0}, {"aa", false, "aa", []int{0}, 1},
		{"Ab", true, "xAB", []int{1}, 1}, {"Ab", true, "abABaBAb", []int{0, 2, 4, 6}, 4}, {"Ab", false, "abABaBAb", []int{6}, 1},
		{"\xc1", true, "\xe1", nil, 0}, {"\xe1", true, "\xc1", nil, 0}, {"\xc1x", true, "\xe1x\xc1X", []int{2}, 1},
		{"@x", true, "`x@X", []int{2}, 1}, {"[x", true, "{x[X", []int{2}, 1}, {"`", true, "@`", []int{1}, 1}, {"{", true, "[{", []int{1}, 1},
		{"Z", true, "zZ", []int{0, 1}, 2}, {"z", true, "zZ", []int{0, 1}, 2}, {"z", false, "zZ", []int{0}, 1},
		{"\x00", false, "a\x00", []int{1}, 1}, {"\x00", false, "a", nil, 0}, {"a\x00", false, "a", nil, 0}, {"a\x00", true, "a\x00a", []int{0}, 1},
		{"\x00\x00", false, "\x00", nil, 0}, {"\x00\x00\x00", true, "\x00\x00", nil, 0}, {"x\n", false, "x\nx", []int{0}, 1},
	} {
		for _, f := range finders(t, c.pattern, c.fold) {
			if all := placesOf(f, c.s); !slices.Equal(all, c.all) {
				t.Errorf("kernel %d: All(%q) of %q, %v = %v, want %v", f.Kernel(), c.s, c.pattern, c.fold, all, c.all)
			}
			if n := f.Count(c.s); n != c.count {
				t.Errorf("kernel %d: Count(%q) of %q, %v = %d, want %d", f.Kernel(), c.s, c.pattern, c.fold, n, c.count)
			}
		}
	}
}

func TestAllAgainAndWithinItself(t *testing.T) { // 6.2, P3
	for _, f := range finders(t, "aa", true) {
		all := f.All("aAaA")
		for at := range all {
			if at != 0 {
				t.Errorf("kernel %d: the first place is %d", f.Kernel(), at)
			}
			break
		}
		var outer, inner []int
		for at := range all {
			outer = append(outer, at)
			for again := range all {
				inner = append(inner, again)
			}
			if f.Find("xaa", 0) != 1 || f.Count("aaaa") != 2 {
				t.Errorf("kernel %d: Find and Count within All", f.Kernel())
			}
		}
		if !slices.Equal(outer, []int{0, 1, 2}) || !slices.Equal(inner, []int{0, 1, 2, 0, 1, 2, 0, 1, 2}) {
			t.Errorf("kernel %d: within itself All goes over %v and %v", f.Kernel(), outer, inner)
		}
	}
}

func TestFinderForgetsTexts(t *testing.T) { // P4
	for _, f := range finders(t, "abab", false) {
		for range 3 {
			if f.Find("aba", 0) != -1 || f.Find("b", 0) != -1 || f.Find("xxxaba", 3) != -1 || f.Find("xabab", 0) != 1 {
				t.Errorf("kernel %d: what was asked ahead shows", f.Kernel())
			}
		}
	}
}
