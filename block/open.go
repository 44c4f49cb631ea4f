package block

import (
	"dragnet/api"
	"dragnet/lz4"
	"dragnet/record"
)

func Open(b string) (api.Head, []api.Line, error) {
	h, e := Look(b)
	if e != nil {
		return api.Head{}, nil, e
	}
	body, e := bodyOf(b, h)
	if e != nil {
		return api.Head{}, nil, e
	}
	l, e := linesOf(body, h)
	if e != nil {
		return api.Head{}, nil, e
	}
	return h, l, nil
}

// bodyOf is what stands behind the head, just as long as the head says.
func bodyOf(b string, h api.Head) (string, error) {
	end := headBytes + h.Packed + sumBytes
	if len(b) < end {
		return "", &Fault{At: len(b), Code: api.ErrShort}
	}
	if len(b) > end {
		return "", &Fault{At: end, Code: api.ErrRest}
	}
	return b[headBytes:], nil
}

// linesOf reads the lines, and holds against them all that the head says.
func linesOf(body string, h api.Head) ([]api.Line, error) {
	packed, e := unsummed(body)
	if e != nil {
		return nil, within(headBytes, e)
	}
	payload, e := unpack(packed, h.Raw)
	if e != nil {
		return nil, within(headBytes, e)
	}
	if len(payload) != h.Raw {
		return nil, &Fault{At: placeOf(wordRaw), Code: api.ErrSize}
	}
	l, why, _ := record.Decode(payload)
	if why != api.OK {
		return nil, &Fault{At: headBytes, Code: why}
	}
	if e := agree(h, l); e != nil {
		return nil, e
	}
	if pack(payload, h.Level) != packed {
		return nil, &Fault{At: headBytes, Code: api.ErrForm}
	}
	return l, nil
}

func unpack(packed string, most int) (string, error) {
	payload, e, at := lz4.Expand(packed, most)
	if e != api.OK {
		return "", &Fault{At: at, Code: e}
	}
	return payload, nil
}

// agree tells which number of the head is the first that lines give another one.
func agree(h api.Head, l []api.Line) error {
	if len(l) != h.Count { // ahead of counted, as there may be none
		return &Fault{At: placeOf(wordCount), Code: api.ErrSize}
	}
	told, held := numbersOf(h), numbersOf(counted(h, l))
	for word := range told {
		if told[word] != held[word] {
			return &Fault{At: placeOf(word), Code: api.ErrSize}
		}
	}
	return nil
}
