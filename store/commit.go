package store

import (
	"iter"

	"moraine/api"
	"moraine/fresh"
	"moraine/group"
	"moraine/limit"
	"moraine/obj"
	"moraine/recover"
	"moraine/snap"
)

// trial is what there is behind the transactions of a call that were done so far.
type trial struct {
	facts   []api.Fact
	n, next int
	commits []api.Batch
}

// Commit commits transactions, each on what those ahead of it left, and tells an error for each.
func (s *Store) Commit(t []api.Txn) ([]api.Errno, api.Errno) {
	if err := s.ready(); err != api.OK {
		return nil, err
	}
	if len(t) > api.MaxTxns {
		return nil, api.ErrArg
	}
	done := trial{facts: s.facts(), n: s.n, next: s.next}
	var errs []api.Errno
turn:
	for b, err := range s.tried(&done, t...) {
		errs = append(errs, err)
		if err != api.OK || b.N == 0 {
			continue turn
		}
		done.facts = append(done.facts, fresh.Laid(b)...)
		done.n, done.next = b.N, b.Next
		done.commits = append(done.commits, b)
	}
	if len(done.commits) == 0 {
		return errs, api.OK
	}
	if err := s.write(false, done.commits...); err != api.OK {
		return nil, err
	}
	s.n, s.next = done.n, done.next
	s.markWritten(done)
	return errs, api.OK
}

// tried are the commits of transactions, each tried on what there is then, with its error; one without a number is none.
func (s *Store) tried(done *trial, t ...api.Txn) iter.Seq2[api.Batch, api.Errno] {
	may := func(base int) bool { return base >= s.floor && base <= s.n }
	return func(yield func(api.Batch, api.Errno) bool) {
		for _, x := range t {
			b, err := api.Batch{}, api.ErrCommit
			if may(x.Base) {
				b, err = done.commit(x, s.per)
			}
			if !yield(b, err) {
				return
			}
		}
	}
}

// commit is that of a transaction alone, if it stays within the limits.
func (done *trial) commit(x api.Txn, per int) (api.Batch, api.Errno) {
	batches, errs, err := group.Group(done.facts, done.n, done.next, []api.Txn{x})
	if err == api.OK {
		err = errs[0]
	}
	if err != api.OK || len(batches) == 0 {
		return api.Batch{}, err
	}
	w, err := there(done.facts, done.next)
	if err != api.OK {
		return api.Batch{}, err
	}
	snaps, err := snap.List(done.facts)
	if err != api.OK {
		return api.Batch{}, err
	}
	b := batches[0]
	if err := limit.Check(w, snaps, b.Recs); err != api.OK {
		return api.Batch{}, err
	}
	if !fits(b, per) {
		return api.Batch{}, api.ErrBig
	}
	return b, api.OK
}

// fits tells whether a commit goes into a segment, and each of its facts into one of copies.
func fits(b api.Batch, per int) bool {
	if ok, err := limit.Fits(b, per); !ok || err != api.OK {
		return false
	}
	for _, f := range fresh.Laid(b) {
		if _, err := recover.Batches([]api.Fact{f}, b.N, b.Next, per); err != api.OK {
			return false
		}
	}
	return true
}

// markWritten tells the marker what the commits wrote, if there is one.
func (s *Store) markWritten(done trial) {
	if s.marker == nil {
		return
	}
	w, _ := there(done.facts, done.next)
	wrote := func(ids ...int) { s.marker.Wrote(ids) }
	for _, b := range done.commits {
		for _, r := range b.Recs {
			switch {
			case r.Kind == api.RPut:
				now, _ := obj.Latest(w.Schema, r.Obj)
				wrote(obj.Refs(now)...)
			case r.Kind == api.RRoot && r.ID != 0:
				wrote(r.ID)
			}
		}
	}
}
