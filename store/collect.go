package store

import (
	"cmp"
	"slices"

	"moraine/api"
	"moraine/keep"
	"moraine/kin"
	"moraine/mark"
	"moraine/obj"
	"moraine/recover"
	"moraine/sweep"
	"moraine/table"
)

// mostSteps is how many steps one call collects at most.
const mostSteps = 1000

// end is a world that is needed, with what tells its objects as they are.
type end struct {
	api.World
	kin *kin.Kin
}

// ends are the worlds that are needed, by their commits' numbers.
func ends(facts []api.Fact) (map[int]end, api.Errno) {
	numbers, err := keep.Ends(facts)
	if err != api.OK {
		return nil, err
	}
	worlds := map[int]end{}
	for _, n := range numbers {
		w, err := table.World(facts, n)
		if err != api.OK {
			return nil, err
		}
		k, err := kin.New(w.Schema)
		if err != api.OK {
			return nil, err
		}
		worlds[n] = end{w, k}
	}
	return worlds, api.OK
}

// Collect marks so many steps on, and, when all is marked, empties segments; true, if there is nothing to do any more.
func (s *Store) Collect(steps int) (bool, api.Errno) {
	if err := s.ready(); err != api.OK {
		return false, err
	}
	if steps < 0 || steps > mostSteps {
		return false, api.ErrArg
	}
	facts := s.facts()
	worlds, err := ends(facts)
	if err != api.OK {
		return false, err
	}
	if s.marker == nil {
		if s.marker, err = mark.New(roots(worlds)); err != api.OK {
			return false, err
		}
	}
	for range steps {
		id, ok := s.marker.Next()
		if !ok {
			break
		}
		if err := s.marker.Scan(id, refs(worlds, id)); err != api.OK {
			return false, err
		}
	}
	if !s.marker.Done() {
		return false, api.OK
	}
	s.marker = nil
	return s.emptied(facts)
}

func roots(worlds map[int]end) []int {
	var ids []int
	for _, w := range worlds {
		for _, r := range w.Roots {
			ids = append(ids, r.ID)
		}
	}
	return ids
}

// refs are the strong references that an object has in any of the worlds.
func refs(worlds map[int]end, id int) []int {
	var ids []int
	for _, w := range worlds {
		at, ok := slices.BinarySearchFunc(w.Objs, id, func(o api.Obj, id int) int { return cmp.Compare(o.ID, id) })
		if ok {
			now, _ := w.kin.Latest(w.Objs[at])
			ids = append(ids, obj.Refs(now)...)
		}
	}
	return ids
}

// emptied copies what is needed out of the emptiest segments, and frees them; true, if there is no need to.
func (s *Store) emptied(facts []api.Fact) (bool, api.Errno) {
	need, err := keep.Needed(facts)
	if err != api.OK {
		return false, err
	}
	chain, free := s.log.Chain(), s.log.Free()
	epochs, copies, err := sweep.Plan(chain, need, s.per, min(free, 1))
	if err != api.OK {
		return false, err
	}
	rest, err := sweep.Rest(chain, need, s.per)
	if err != api.OK {
		return false, err
	}
	if rest && (free > api.Reserve || len(epochs) == 0) {
		return true, api.OK
	}
	batches, err := recover.Batches(copies, s.n, s.next, s.per)
	if err != api.OK {
		return false, err
	}
	if len(batches) == 0 && !s.tellSame(epochs) {
		if free > 0 {
			batches = []api.Batch{{Kind: api.BCopy, N: s.n, Next: s.next}}
		} else {
			epochs = slices.DeleteFunc(epochs, func(epoch int) bool { return !s.none(epoch) })
		}
	}
	return false, s.retire(batches, epochs)
}

// tellSame tells whether the pieces of all other epochs tell the same numbers.
func (s *Store) tellSame(epochs []int) bool {
	left := s.without(epochs...)
	n, next := left.numbers()
	return n == s.n && next == s.next
}

// retire appends copies, and lets epochs go.
func (s *Store) retire(batches []api.Batch, epochs []int) api.Errno {
	if len(batches) > 0 {
		if err := s.write(true, batches...); err != api.OK {
			return err
		}
	}
	for _, epoch := range epochs {
		if err := s.log.Retire(epoch); err != api.OK {
			return err
		}
	}
	s.pieces = s.without(epochs...)
	if len(epochs) > 0 {
		s.floor = s.n
	}
	return api.OK
}
