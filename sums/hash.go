package sums

// Hash is an XX32 of what is written bit by bit.
type Hash struct {
	seed    uint32
	four    four32
	row     [smallRow]byte // its first bytes wait until the row is full
	waiting int            // how many they are: fewer than a row has, between calls
	length  int
}

// New begins one.
func New(seed uint32) *Hash {
	return &Hash{seed: seed, four: begin32(seed)}
}

// Write takes bytes, behind those that were written.
func (h *Hash) Write(s string) {
	h.length += len(s)
	if h.waiting > 0 {
		n := copy(h.row[h.waiting:], s)
		h.waiting += n
		if h.waiting < smallRow {
			return
		}
		h.four.take(string(h.row[:]))
		s = s[n:]
	}
	rest := eachRow(s, smallRow, h.four.take)
	h.waiting = copy(h.row[:], rest)
}

// Sum is that of all bytes that were written; more may come behind it.
func (h *Hash) Sum() uint32 {
	merged := h.seed + small5
	if h.length >= smallRow {
		merged = h.four.merged()
	}
	return last32(merged, h.length, string(h.row[:h.waiting]))
}

// Len is how many bytes were written.
func (h *Hash) Len() int { return h.length }

// Reset begins anew, under the same seed.
func (h *Hash) Reset() { *h = *New(h.seed) }
