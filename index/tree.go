package index

import (
	"cmp"

	"moraine/api"
	"moraine/val"
)

// pair is a value, and an object's number.
type pair struct {
	val api.Val
	id  int
}

func (p pair) compare(other pair) int {
	return cmp.Or(val.Compare(p.val, other.val), cmp.Compare(p.id, other.id))
}

// node is a pair in a tree: what is low stands ahead of it, what is high behind. No two sides' depths differ by more than one.
type node struct {
	pair
	low, high *node
	depth     int
}

func (n *node) deep() int {
	if n == nil {
		return 0
	}
	return n.depth
}

func (n *node) has(p pair) bool {
	for n != nil {
		c := p.compare(n.pair)
		switch {
		case c == 0:
			return true
		case c < 0:
			n = n.low
		default:
			n = n.high
		}
	}
	return false
}

// with is a tree with one pair more.
func (n *node) with(p pair) *node {
	if n == nil {
		return &node{pair: p, depth: 1}
	}
	if p.compare(n.pair) < 0 {
		n.low = n.low.with(p)
	} else {
		n.high = n.high.with(p)
	}
	return n.even()
}

// without is a tree without a pair that it has.
func (n *node) without(p pair) *node {
	c := p.compare(n.pair)
	switch {
	case c < 0:
		n.low = n.low.without(p)
	case c > 0:
		n.high = n.high.without(p)
	case n.high == nil:
		return n.low
	default:
		next := n.high
		for next.low != nil {
			next = next.low
		}
		n.pair = next.pair
		n.high = n.high.without(next.pair)
	}
	return n.even()
}

// even is a tree whose sides are about as deep, of one where they may differ by two.
func (n *node) even() *node {
	switch n.lean() {
	case 2:
		if n.high.lean() < 0 {
			n.high = n.high.turnHigh()
		}
		return n.turnLow()
	case -2:
		if n.low.lean() > 0 {
			n.low = n.low.turnLow()
		}
		return n.turnHigh()
	}
	n.measure()
	return n
}

// lean is by how much the high side is deeper.
func (n *node) lean() int { return n.high.deep() - n.low.deep() }

func (n *node) measure() { n.depth = max(n.low.deep(), n.high.deep()) + 1 }

// turnLow lets what is high be the top; turnHigh what is low.
func (n *node) turnLow() *node {
	top := n.high
	n.high, top.low = top.low, n
	n.measure()
	top.measure()
	return top
}

func (n *node) turnHigh() *node {
	top := n.low
	n.low, top.high = top.high, n
	n.measure()
	top.measure()
	return top
}

// walk sees all pairs, in order, for whose values side tells 0; where it tells -1 it goes on behind, where 1 ahead.
func (n *node) walk(side func(api.Val) int, see func(pair)) {
	if n == nil {
		return
	}
	s := side(n.val)
	if s >= 0 {
		n.low.walk(side, see)
	}
	if s == 0 {
		see(n.pair)
	}
	if s <= 0 {
		n.high.walk(side, see)
	}
}
