package wrap

import "strings"

// window is the end of a text that grows, in memory of its own. It holds up to twice as much as a block may reach back to, so that short texts don't move all of it one by one.
type window struct {
	text strings.Builder
}

// end is what a block may reach back to.
func (w *window) end() string { return lastOf(w.text.String()) }

func (w *window) add(text string) {
	if w.text.Len()+len(text) > 2*reach {
		kept := w.end()
		w.text.Reset()
		w.text.WriteString(kept)
	}
	w.text.WriteString(lastOf(text))
}

func lastOf(text string) string { return text[max(0, len(text)-reach):] }
