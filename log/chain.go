package log

import (
	"cmp"
	"slices"

	"moraine/api"
)

// segment is one in use, or, of the epoch 0, a free one.
type segment struct{ epoch, count int }

// chain are all segments, by their numbers.
type chain [api.MaxSegs]segment

// inUse are the numbers of the segments in use, by epochs.
func (c chain) inUse() []int {
	var l []int
	for seg := range c {
		if c[seg].epoch > 0 {
			l = append(l, seg)
		}
	}
	slices.SortFunc(l, func(a, b int) int { return cmp.Compare(c[a].epoch, c[b].epoch) })
	return l
}

// newest is the number of the newest segment.
func (c chain) newest() (int, bool) {
	l := c.inUse()
	if len(l) == 0 {
		return 0, false
	}
	return l[len(l)-1], true
}

// epoch is that of the newest segment; 0, if there is none.
func (c chain) epoch() int {
	seg, ok := c.newest()
	if !ok {
		return 0
	}
	return c[seg].epoch
}

// link is what a new segment tells of those that are in use.
func (c chain) link(size int) string {
	var b []byte
	for _, s := range c[:size] {
		b = append(b, byte(s.epoch>>16), byte(s.epoch>>8), byte(s.epoch), byte(s.count))
	}
	return string(b)
}

// readLink is what the link of a segment tells of the others, if it is right.
func readLink(f api.Frame, own int, g ground) (chain, bool) {
	var c chain
	if f.Kind != api.FLink || f.At != 0 || len(f.S) != 4*g.size {
		return chain{}, false
	}
	met := map[int]bool{}
	for seg := range g.size {
		b := f.S[4*seg:]
		s := segment{int(b[0])<<16 + int(b[1])<<8 + int(b[2]), int(b[3])}
		if s == (segment{}) {
			continue
		}
		if seg == own || s.epoch == 0 || s.epoch >= f.Epoch || met[s.epoch] || s.count < 1 || s.count > g.per {
			return chain{}, false
		}
		met[s.epoch] = true
		c[seg] = s
	}
	return c, true
}
