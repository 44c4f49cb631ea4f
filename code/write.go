package code

import "dragnet/api"

// Uint, Int, Text and Fixed write one.
func Uint(n uint64) string {
	out := make([]byte, 0, mostGroups)
	for ; n >= follows; n >>= groupBits {
		out = append(out, byte(n)|follows)
	}
	return string(append(out, byte(n)))
}

// Int takes -n - 1 of an n below 0: that has room, where -n of the least int has none.
func Int(n int) string {
	if n < 0 {
		return Uint(uint64(-(n+1))<<1 | 1)
	}
	return Uint(uint64(n) << 1)
}

func Text(s string) string { return Uint(uint64(len(s))) + s }

func Fixed(n uint64, width int) (string, api.Errno) {
	if width < 1 || width > mostWidth {
		return "", api.ErrArg
	}
	out := make([]byte, width)
	for i := range out {
		out[i] = byte(n)
		n >>= 8
	}
	if n > 0 {
		return "", api.ErrOver
	}
	return string(out), api.OK
}
