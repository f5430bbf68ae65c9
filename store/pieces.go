package store

import (
	"slices"

	"moraine/api"
	"moraine/recover"
)

// pieces are those that lie in a log's chain, by epochs, and in order.
type pieces struct{ list []api.Piece }

// facts are those that they tell; numbers the newest commit's number, and the next object's.
func (p *pieces) facts() []api.Fact {
	l, _, _, _ := recover.Facts(p.list)
	return l
}

func (p *pieces) numbers() (int, int) {
	_, n, next, _ := recover.Facts(p.list)
	return n, next
}

// add lays a batch's bytes behind the others.
func (p *pieces) add(epoch int, s string) {
	p.list = append(p.list, api.Piece{Epoch: epoch, S: s})
}

// without are the pieces of all other epochs.
func (p *pieces) without(epochs ...int) pieces {
	left := slices.Clone(p.list)
	return pieces{slices.DeleteFunc(left, func(one api.Piece) bool { return slices.Contains(epochs, one.Epoch) })}
}

// none tells whether no piece has that epoch.
func (p *pieces) none(epoch int) bool {
	return !slices.ContainsFunc(p.list, func(one api.Piece) bool { return one.Epoch == epoch })
}
