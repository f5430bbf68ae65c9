package log

import (
	"moraine/api"
	"moraine/frame"
)

// sight is what is seen of a disk that is read.
type sight struct {
	ground
	frames []api.Frame
	// epoch is the newest one, seg the segment of that.
	epoch, seg int
	// seal is the place of the last seal in it; 0, if there is none.
	seal int
}

// look reads a disk.
func look(g ground) sight {
	s := sight{ground: g, frames: g.standing()}
	for sector, f := range s.frames {
		if f.Epoch > s.epoch {
			s.epoch, s.seg = f.Epoch, sector/g.per
		}
	}
	for place, sector := range g.places(s.seg, 1, g.per) {
		if f := s.frames[sector]; s.epoch > 0 && f.Epoch == s.epoch && f.Kind == api.FSeal {
			s.seal = place
		}
	}
	return s
}

// linked are the segments that the newest one's link counts: what they hold has to stand, and so has what was sealed in the newest one.
func (s sight) linked() (chain, error) {
	first := s.seg * s.per
	c, ok := readLink(s.frames[first], s.seg, s.ground)
	if !ok || s.frames[first].Epoch != s.epoch {
		return chain{}, rot{first}
	}
	for _, seg := range c.inUse() {
		if err := s.whole(seg, c[seg]); err != nil {
			return chain{}, err
		}
	}
	if err := s.whole(s.seg, segment{s.epoch, s.seal}); err != nil {
		return chain{}, err
	}
	return c, nil
}

// whole tells the first sector that has rotted of those that a segment counts.
func (s sight) whole(seg int, of segment) error {
	var err error
looking:
	for place, sector := range s.places(seg, 0, of.count) {
		f := s.frames[sector]
		if f.Epoch != of.epoch || (f.Kind == api.FLink) != (place == 0) {
			err = rot{sector}
			break looking
		}
	}
	return err
}

// batches are those of a segment, from its link up to a place, or to where its frames end, and how many sectors it counts then.
func (s sight) batches(seg, epoch, to int) ([]string, int) {
	var frames []api.Frame
taking:
	for _, sector := range s.places(seg, 1, to) {
		f := s.frames[sector]
		if f.Epoch != epoch || f.Kind == api.FLink {
			break taking
		}
		frames = append(frames, f)
	}
	batches, count := frame.Join(frames)
	return batches, count + 1
}

// pieces are batches of one epoch.
func pieces(epoch int, batches ...string) []api.Piece {
	var l []api.Piece
	for _, s := range batches {
		l = append(l, api.Piece{Epoch: epoch, S: s})
	}
	return l
}

// find reads the disk, and lets behind the newest batch be nothing but a seal.
func (l *Log) find() ([]api.Piece, error) {
	s := look(l.ground)
	if s.epoch == 0 {
		return nil, nil
	}
	linked, err := s.linked()
	if err != nil {
		return nil, err
	}
	var found []api.Piece
	for _, seg := range linked.inUse() {
		batches, _ := s.batches(seg, linked[seg].epoch, linked[seg].count)
		found = append(found, pieces(linked[seg].epoch, batches...)...)
	}
	batches, count := s.batches(s.seg, s.epoch, s.per)
	found = append(found, pieces(s.epoch, batches...)...)
	l.chain = linked
	l.chain[s.seg] = segment{s.epoch, count}
	if err := l.wipe(s.seg, count); err != nil {
		return nil, err
	}
	if err := l.sync(); err != nil {
		return nil, err
	}
	if sealed, _ := s.batches(s.seg, s.epoch, s.seal+1); len(batches) > len(sealed) && count < l.per {
		return found, l.seal(s.seg)
	}
	return found, nil
}
