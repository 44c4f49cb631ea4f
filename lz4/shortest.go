package lz4

// way is the best packing of a text from a place on, at which a sequence begins: how many bytes it has, and its first sequence (its count is 0, if that is the last one). Its offset does not change what it costs.
type way struct {
	cost, literals, count int
}

// shortest are the copies of the shortest packing: each way hangs on those behind it alone, so they are found from the text's end on.
func shortest(s string) []match {
	n := len(s)
	reach := reaches(s)
	copies := make([]way, n+1) // of each place the best that begins with a copy there, less its token
	ways := make([]way, n+1)
	for at := n; at >= 0; at-- {
		copies[at] = bestCopy(ways, at, reach[at])
		ways[at] = bestWay(copies, at)
	}
	return unrolled(s, ways)
}

// reaches tells of each place the count of the longest copy that may stand there; 0: none.
func reaches(s string) []int {
	reach := make([]int, len(s)+1)
	for offset := 1; offset < len(s); offset++ {
		run := 0
		for at := len(s) - lastPlain - 1; at >= offset; at-- {
			if s[at] != s[at-offset] {
				run = 0
				continue
			}
			run++
			if run >= leastCopy && at <= len(s)-lastCopy {
				reach[at] = max(reach[at], run)
			}
		}
	}
	return reach
}

// bestCopy looks at the greatest count first, so of several of one cost it stays.
func bestCopy(ways []way, at, reach int) way {
	var best way
	for count := reach; count >= leastCopy; count-- {
		cost := 2 + lengthSize(count-leastCopy) + ways[at+count].cost
		if best.count == 0 || cost < best.cost {
			best = way{cost: cost, count: count}
		}
	}
	return best
}

// bestWay looks at the most literals first: all that are left, with no copy behind them; of several of one cost the last one stays.
func bestWay(copies []way, at int) way {
	left := len(copies) - 1 - at
	best := way{cost: 1 + lengthSize(left) + left, literals: left}
	for plain := left - lastCopy; plain >= 0; plain-- {
		next := copies[at+plain]
		cost := 1 + lengthSize(plain) + plain + next.cost
		if next.count > 0 && cost <= best.cost {
			best = way{cost, plain, next.count}
		}
	}
	return best
}

func unrolled(s string, ways []way) []match {
	var copies []match
	for at := 0; ways[at].count > 0; {
		w := ways[at]
		at += w.literals
		copies = append(copies, match{at, leastOffset(s, at, w.count), w.count})
		at += w.count
	}
	return copies
}

// leastOffset is of a copy that may stand: so there is one.
func leastOffset(s string, at, count int) int {
	offset := 1
	for s[at-offset:at-offset+count] != s[at:at+count] {
		offset++
	}
	return offset
}
