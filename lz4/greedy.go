package lz4

// greedy takes at each place the longest copy from one of the greatest so many candidates, if there is one, and goes on behind it.
func greedy(s string, tries int) []match {
	var copies []match
	nearest := nearestSame(s)
	for at := 0; at <= len(s)-lastCopy; {
		c := longest(s, nearest, at, tries)
		if c.count == 0 {
			at++
			continue
		}
		copies = append(copies, c)
		at += c.count
	}
	return copies
}

// nearestSame tells of each place the greatest one below it at which the same four bytes stand, or -1. One leads on to the next: so they are all of a place's candidates, however far.
func nearestSame(s string) []int {
	last := make(map[uint32]int)
	nearest := make([]int, max(0, len(s)-leastCopy+1))
	for at := range nearest {
		four := fourBytes(s[at:])
		place, ok := last[four]
		if !ok {
			place = -1
		}
		nearest[at] = place
		last[four] = at
	}
	return nearest
}

func fourBytes(s string) uint32 {
	return uint32(s[0]) | uint32(s[1])<<8 | uint32(s[2])<<16 | uint32(s[3])<<24
}

func longest(s string, nearest []int, at, tries int) match {
	var best match
	for from := nearest[at]; from >= 0 && at-from <= mostOffset && tries > 0; from = nearest[from] {
		if count := agreed(s, from, at); count > best.count {
			best = match{at, at - from, count}
		}
		tries--
	}
	return best
}

// agreed is how many bytes are the same from both places on, as far as a copy may go.
func agreed(s string, from, at int) int {
	count := 0
	for at+count < len(s)-lastPlain && s[from+count] == s[at+count] {
		count++
	}
	return count
}
