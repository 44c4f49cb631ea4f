package wrap

import (
	"errors"
	"strings"

	"dragnet/api"
)

// Unpack reads frames, one behind the other, with at most so many bytes in them.
func Unpack(b string, most int) (string, error) {
	s, e := New(most)
	if e != nil {
		return "", e
	}
	text, e := s.Feed(b)
	if e == nil {
		e = s.Close()
	}
	if e != nil {
		return "", e
	}
	return text, nil
}

// Stream reads frames that come in pieces.
type Stream struct {
	shut    bool
	at      int    // so many bytes stand ahead of the thing that comes next
	waiting []byte // its first bytes, as long as it is not whole
	reader  reader
}

// New makes one that gives out at most so many bytes.
func New(most int) (*Stream, error) {
	if most < 0 {
		return nil, &Fault{Code: api.ErrArg}
	}
	return &Stream{reader: begin(most)}, nil
}

// Feed takes a piece: what can be given out by now.
func (s *Stream) Feed(b string) (string, error) {
	if s.shut {
		return "", &Fault{Code: api.ErrShut}
	}
	var texts strings.Builder
	for {
		thing, rest, e := s.take(b)
		if errors.Is(e, api.ErrShort) { // what is missing may still come
			return texts.String(), nil
		}
		text, e := s.reader.look(thing)
		if e != nil {
			e = placed(e, s.at)
			s.end()
			return texts.String(), e
		}
		texts.WriteString(text)
		s.at += len(thing)
		b = rest
	}
}

// take takes the thing that comes next off b; if it is not whole, b waits. Of what is passed over nothing needs to wait: any piece of it is taken.
func (s *Stream) take(b string) (thing, rest string, e error) {
	missing := s.reader.need - int64(len(s.waiting))
	if s.reader.next == passedBytes && b != "" {
		missing = min(missing, int64(len(b)))
	}
	if int64(len(b)) < missing {
		s.waiting = append(s.waiting, b...)
		return "", "", s.short()
	}
	thing, rest = b[:missing], b[missing:]
	if len(s.waiting) > 0 {
		thing = string(append(s.waiting, thing...))
		s.waiting = nil
	}
	return thing, rest, nil
}

// short is the fault of bytes that end here, within a frame.
func (s *Stream) short() error {
	return &Fault{At: s.at + len(s.waiting), Code: api.ErrShort}
}

// placed is a fault of a thing at that place, told from the first byte on.
func placed(e error, at int) error {
	var f *Fault
	if errors.As(e, &f) {
		return &Fault{At: at + f.At, Code: f.Code}
	}
	return e
}

// end shuts it, and lets go of what it kept.
func (s *Stream) end() { *s = Stream{shut: true} }

// Close tells that nothing more comes.
func (s *Stream) Close() error {
	if s.shut {
		return &Fault{Code: api.ErrShut}
	}
	var e error
	if s.reader.next != frameMagic || len(s.waiting) > 0 {
		e = s.short()
	}
	s.end()
	return e
}
