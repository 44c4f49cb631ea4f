package block

import (
	"dragnet/api"
	"dragnet/lz4"
	"dragnet/record"
)

// Seal makes the image of lines: of h its Number, First, Generation and Level count.
func Seal(h api.Head, l []api.Line) (string, error) {
	if !given(h) {
		return "", &Fault{Code: api.ErrArg}
	}
	if len(l) == 0 {
		return "", &Fault{Code: api.ErrNone}
	}
	payload, e, n := record.Encode(l)
	if e != api.OK {
		return "", &Fault{At: n, Code: e}
	}
	packed := pack(payload, h.Level)
	h.Raw, h.Packed = len(payload), len(packed)
	return summed(writeHead(counted(h, l))) + summed(packed), nil
}

// given tells whether what counts of a head that is handed in may be.
func given(h api.Head) bool {
	for _, n := range [...]int{h.Number, h.First, h.Generation} {
		if n < 0 || n > mostNumber {
			return false
		}
	}
	return h.Level >= 0 && h.Level <= mostLevel
}

// pack packs a payload: no level of an image is refused.
func pack(payload string, level int) string {
	packed, _ := lz4.Compress(payload, level)
	return packed
}

// counted is the head with what these lines, one at least, say of themselves.
func counted(h api.Head, l []api.Line) api.Head {
	h.Count, h.Min, h.Max = len(l), l[0].Stamp, l[0].Stamp
	for _, line := range l {
		h.Min = min(h.Min, line.Stamp)
		h.Max = max(h.Max, line.Stamp)
	}
	return h
}
