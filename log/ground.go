package log

import (
	"iter"
	"strings"

	"moraine/api"
	"moraine/disk"
	"moraine/frame"
)

// ground is a disk, parted into segments.
type ground struct {
	disk *disk.Disk
	per  int
	size int
}

// groundOf parts a disk into segments of so many sectors, if that may be.
func groundOf(d *disk.Disk, per int) (ground, bool) {
	if per < api.MinPer || per > api.MaxPer {
		return ground{}, false
	}
	size := d.Size() / per
	return ground{d, per, size}, size >= api.MinSegs && size <= api.MaxSegs
}

// rot is told of the first sector that has rotted.
type rot struct{ sector int }

func (r rot) Error() string { return "a sector has rotted" }

// broken is told with what the disk told.
type broken struct{ number api.Errno }

func (b broken) Error() string { return "the disk told an error" }

// told is what the disk told, as an error.
func told(number api.Errno) error {
	if number == api.OK {
		return nil
	}
	return broken{number}
}

// sync keeps what was written.
func (g ground) sync() error { return told(g.disk.Sync()) }

// write lays frames in a segment's sectors, each at its place.
func (g ground) write(seg int, frames ...api.Frame) error {
	for _, f := range frames {
		laid, number := frame.Lay(f)
		if number == api.OK {
			number = g.disk.Write(seg*g.per+f.At, laid)
		}
		if number != api.OK {
			return broken{number}
		}
	}
	return nil
}

// wipe writes noughts in a segment's sectors from a place on.
func (g ground) wipe(seg, from int) error {
	for place := from; place < g.per; place++ {
		if number := g.disk.Write(seg*g.per+place, strings.Repeat("\x00", api.Sector)); number != api.OK {
			return broken{number}
		}
	}
	return nil
}

// standing are the frames that stand in the sectors of all segments; a frame of the epoch 0 is none.
func (g ground) standing() []api.Frame {
	l := make([]api.Frame, g.size*g.per)
	for sector := range l {
		s, _ := g.disk.Read(sector)
		f, err := frame.Read(s)
		if err == api.OK && f.At == sector%g.per {
			l[sector] = f
		}
	}
	return l
}

// places are those of a segment from one on, up to another one, each with its sector.
func (g ground) places(seg, from, to int) iter.Seq2[int, int] {
	return func(yield func(int, int) bool) {
		for place := from; place < to; place++ {
			if !yield(place, seg*g.per+place) {
				return
			}
		}
	}
}
