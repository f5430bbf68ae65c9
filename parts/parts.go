// Package parts reads what layers lay as bytes, part by part.
package parts

import (
	"moraine/api"
	"moraine/wire"
)

// Reader reads parts that stand one behind the other; from the first one on that is wrong all of them are zero.
type Reader struct {
	s   string
	at  int
	bad bool
}

// New is a reader of what stands in s from at on.
func New(s string, at int) *Reader { return &Reader{s: s, at: at} }

// Next is the next part, told by the function that reads parts of its kind.
func Next[T any](r *Reader, read func(string, int) (T, int, api.Errno)) T {
	var none T
	if r.bad {
		return none
	}
	part, to, err := read(r.s, r.at)
	if err != api.OK {
		r.bad = true
		return none
	}
	r.at = to
	return part
}

// Num is the next number, Text the next text.
func (r *Reader) Num() int { return Next(r, wire.ReadNum) }

func (r *Reader) Text() string { return Next(r, wire.ReadText) }

// End is the place behind what was read, and whether nothing was wrong.
func (r *Reader) End() (int, bool) { return r.at, !r.bad }
