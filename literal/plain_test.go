package literal

import (
	"math/rand"
	"strings"
	"testing"

	"dragnet/api"
)

// The plain forms here go byte by byte, as the chapter's words do; the kernels are held against them.

const (
	greatest = int(^uint(0) >> 1)
	least    = -greatest - 1
)

func plainSmall(b byte) byte {
	if b >= 65 && b <= 90 {
		return b + 32
	}
	return b
}

func plainStands(pattern string, fold bool, s string, at int) bool {
	if at < 0 || len(pattern) > len(s)-at {
		return false
	}
	for k := range len(pattern) {
		a, b := pattern[k], s[at+k]
		if fold {
			a, b = plainSmall(a), plainSmall(b)
		}
		if a != b {
			return false
		}
	}
	return true
}

func plainAll(pattern string, fold bool, s string) []int {
	var places []int
	for at := range len(s) {
		if plainStands(pattern, fold, s, at) {
			places = append(places, at)
		}
	}
	return places
}

// plainFind is the first of the places that is not ahead of from.
func plainFind(places []int, from int) int {
	for _, at := range places {
		if at >= from {
			return at
		}
	}
	return -1
}

func plainCount(places []int, length int) int {
	count, behind := 0, 0
	for _, at := range places {
		if at >= behind {
			count++
			behind = at + length
		}
	}
	return count
}

func plainFold(s string) string {
	b := []byte(s)
	for k := range b {
		b[k] = plainSmall(b[k])
	}
	return string(b)
}

// plainSuits are the kernels that the chapter says are for patterns that long.
func plainSuits(length int) []int {
	kernels := []int{api.KernelHorspool, api.KernelWide}
	if length == 1 {
		kernels = append(kernels, api.KernelByte)
	}
	if length >= 2 {
		kernels = append(kernels, api.KernelPair)
	}
	if length <= 64 {
		kernels = append(kernels, api.KernelShift)
	}
	return kernels
}

// finders are those of a pattern by every kernel that is for it.
func finders(t *testing.T, pattern string, fold bool) []*Finder {
	t.Helper()
	var list []*Finder
	for _, kernel := range plainSuits(len(pattern)) {
		f, e := Compile(pattern, fold, kernel)
		if e != api.OK || f == nil {
			t.Fatalf("Compile(%q, %v, %d): %v", pattern, fold, kernel, e)
		}
		list = append(list, f)
	}
	return list
}

func placesOf(f *Finder, s string) []int {
	var places []int
	for at := range f.All(s) {
		places = append(places, at)
	}
	return places
}

// trickyBytes stand at the edges of case: the capitals and the small letters, their neighbours, both 128 higher, noughts.
const trickyBytes = "\x00\x01@AZ[`az{\x7f\x80\xc1\xda\xe1\xfa\xff"

func randomText(r *rand.Rand, kinds string, length int) string {
	var b strings.Builder
	for range length {
		b.WriteByte(kinds[r.Intn(len(kinds))])
	}
	return b.String()
}

// textsOver are all texts of 0 to so many bytes of these kinds.
func textsOver(kinds string, most int) []string {
	list := []string{""}
	for from := 0; len(list[from]) < most; from++ {
		for k := range len(kinds) {
			list = append(list, list[from]+kinds[k:k+1])
		}
	}
	return list
}

// lengths are those of patterns at which a word of bytes, a word of bits, a kernel or all patterns end.
func lengths() []int {
	return []int{1, 2, 3, 7, 8, 9, 15, 16, 17, 31, 63, 64, 65, 66, 127, 128, 129, 191, 192, 193, 254, 255, 256}
}
