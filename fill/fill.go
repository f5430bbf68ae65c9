// Package fill parts facts into segments of copies.
package fill

import (
	"iter"

	"moraine/api"
	"moraine/fresh"
	"moraine/rec"
	"moraine/wire"
)

// head is how many bytes the head of a batch of copies has at most.
const head = 11

// Room is how many bytes of facts go into a segment of so many sectors: it has a link and a seal, too.
func Room(per int) int { return (per-2)*api.Payload - head }

// RightPer tells whether a segment may have so many sectors.
func RightPer(per int) bool { return per >= api.MinPer && per <= api.MaxPer }

// Measures are how many bytes right facts take, each.
func Measures(l []api.Fact) []int {
	return fresh.Each(l, func(f api.Fact) int {
		size, _ := rec.Size(f.Rec)
		return len(wire.Num(f.N)) + size
	})
}

// Segments are the places, from one up to another one, of the facts that go into a segment each, by their measures.
func Segments(measures []int, per int) iter.Seq2[int, int] {
	return func(yield func(int, int) bool) {
		from, used := 0, 0
		for i, size := range measures {
			if i > from && used+size > Room(per) {
				if !yield(from, i) {
					return
				}
				from, used = i, 0
			}
			used += size
		}
		if from < len(measures) {
			yield(from, len(measures))
		}
	}
}
