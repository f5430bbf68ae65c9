package store_test

import (
	"math"
	"math/rand"
	"slices"
	"strings"
	"testing"

	"moraine/api"
	"moraine/disk"
	"moraine/frame"
	"moraine/rec"
	"moraine/schema"
	"moraine/store"
	"moraine/sweep"
	"moraine/val"
	"moraine/world"
)

func lastClass(s api.Schema) api.Class {
	ver, _ := schema.Last(s, 0)
	c, _ := schema.At(s, 0, ver)
	return c
}

// made is a new disk and the store on it.
func made(t *testing.T, sectors, per int) (*disk.Disk, *store.Store) {
	t.Helper()
	d, _ := disk.New(sectors)
	s, sector, err := store.Open(d, per)
	if s == nil || sector != 0 || err != api.OK {
		t.Fatalf("Open: %d, %d", sector, err)
	}
	return d, s
}

func txn(base int, ops ...api.Op) api.Txn { return api.Txn{Base: base, Ops: ops} }

func class() api.Class {
	return api.Class{Name: "c", Fields: []api.Field{{Name: "a", Type: api.Type{Kind: api.Num}}, {Name: "r", Type: api.Type{Kind: api.Ref}}}}
}

func addClass() api.Op { return api.Op{Kind: api.OpClass, Def: class()} }
func makeNew(a, r int) api.Op {
	o := api.Op{Kind: api.OpNew, Class: "c", Vals: []api.Val{num(a), {}}}
	if r != 0 {
		o.Vals[1] = api.Val{Kind: api.Ref, N: r}
	}
	return o
}
func set(id, a int) api.Op            { return api.Op{Kind: api.OpSet, ID: id, Name: "a", Val: num(a)} }
func root(name string, id int) api.Op { return api.Op{Kind: api.OpRoot, Name: name, ID: id} }
func noRoot(name string) api.Op       { return api.Op{Kind: api.OpNoRoot, Name: name} }
func snapOp(name string) api.Op       { return api.Op{Kind: api.OpSnap, Name: name} }
func noSnap(name string) api.Op       { return api.Op{Kind: api.OpNoSnap, Name: name} }
func see(name string) api.Op          { return api.Op{Kind: api.OpReadRoot, Name: name} }

// commits checks what a commit tells, and the newest number behind it.
func commits(t *testing.T, s *store.Store, n int, want []api.Errno, x ...api.Txn) {
	t.Helper()
	if got, err := s.Commit(x); !slices.Equal(got, want) || err != api.OK || s.N() != n {
		t.Fatalf("Commit: %v, %d, N %d, want %v, %d", got, err, s.N(), want, n)
	}
}

// answers checks what is answered to a question: one number.
func answers(t *testing.T, s *store.Store, q string, want int) {
	t.Helper()
	if l, err := s.Ask(q); len(l) != 1 || l[0].N != want || err != api.OK {
		t.Errorf("%s: %v, %d, want %d", q, l, err, want)
	}
}

func ok(n int) []api.Errno { return make([]api.Errno, n) }

func at(id, a, r int) api.Obj { return api.Obj{ID: id, Vals: makeNew(a, r).Vals} }

func TestTheExample(t *testing.T) {
	d, s := made(t, 64, 8)
	commits(t, s, 1, ok(1), txn(0, addClass(), makeNew(3, 0), root("h", -1)))
	want := api.World{Schema: api.Schema{Lines: []api.Line{{First: class()}}}, Objs: []api.Obj{at(1, 3, 0)}, Roots: []api.Root{{Name: "h", ID: 1}}, Next: 2}
	if w, err := s.World(); !world.Same(w, want) || err != api.OK {
		t.Errorf("World: %v, %d", w, err)
	}
	if err := d.Crash(nil); err != api.OK {
		t.Fatalf("Crash: %d", err)
	}
	again, sector, err := store.Open(d, 8)
	if w, _ := again.World(); !world.Same(w, want) || sector != 0 || err != api.OK || again.N() != 1 {
		t.Errorf("opened again: %v, %d", w, err)
	}
	facts := []api.Fact{{N: 1, Epoch: 1, Rec: api.Rec{Kind: api.RClass, Class: class()}}, {N: 1, Epoch: 1, Rec: api.Rec{Kind: api.RPut, Obj: at(1, 3, 0)}}, {N: 1, Epoch: 1, Rec: api.Rec{Kind: api.RRoot, Name: "h", ID: 1}}}
	sameFact := func(a, b api.Fact) bool { return a.N == b.N && a.Epoch == b.Epoch && rec.SameRec(a.Rec, b.Rec) }
	if !slices.EqualFunc(again.Facts(), facts, sameFact) || !slices.Equal(again.Chain(), []api.Use{{Epoch: 1, Sectors: 3}}) || again.Free() != 7 {
		t.Errorf("facts %v, chain %v, free %d", again.Facts(), again.Chain(), again.Free())
	}
}

func TestOpenRefuses(t *testing.T) {
	if s, sector, err := store.Open(nil, 8); s != nil || sector != 0 || err != api.ErrNil {
		t.Errorf("Open of none: %d", err)
	}
	for _, x := range []struct{ sectors, per int }{{16, 3}, {16, 5}, {16, 65}, {768, 4}, {16, math.MaxInt}} {
		d, _ := disk.New(x.sectors)
		if s, sector, err := store.Open(d, x.per); s != nil || sector != 0 || err != api.ErrArg {
			t.Errorf("Open of %d by %d: %d", x.sectors, x.per, err)
		}
	}
	for name, x := range map[string]struct {
		batches []string
		want    api.Errno
	}{
		"no batch":               {[]string{"x"}, api.ErrRecover},
		"commits not in turn":    {[]string{commit(t, 2), commit(t, 1)}, api.ErrRecover},
		"a schema that can't be": {[]string{encoded(t, api.Batch{Kind: api.BCommit, N: 1, Next: 1, Recs: []api.Rec{{Kind: api.RClass, ID: 1, Class: class()}}})}, api.ErrStore},
		"good ones":              {[]string{commit(t, 1), commit(t, 5)}, api.OK},
	} {
		d, _ := disk.New(32)
		laid(d, x.batches)
		s, sector, err := store.Open(d, 8)
		if (s != nil) != (x.want == api.OK) || sector != 0 || err != x.want {
			t.Errorf("%s: %d, %d", name, sector, err)
		}
	}
}

func commit(t *testing.T, n int) string {
	return encoded(t, api.Batch{Kind: api.BCommit, N: n, Next: 9, Recs: []api.Rec{{Kind: api.RRoot, Name: "a"}}})
}

func encoded(t *testing.T, b api.Batch) string {
	t.Helper()
	s, err := rec.Encode(b)
	if err != api.OK {
		t.Fatalf("Encode: %d", err)
	}
	return s
}

// laid writes batches in the first segment of a disk of 4 segments.
func laid(d *disk.Disk, batches []string) {
	frames := []api.Frame{{Epoch: 1, Kind: api.FLink, S: strings.Repeat("\x00", 16)}}
	for _, s := range batches {
		l, _ := frame.Cut(1, len(frames), s)
		frames = append(frames, l...)
	}
	for i, f := range frames {
		s, _ := frame.Lay(f)
		d.Write(i, s)
	}
	d.Sync()
}

func TestNilAndDownStores(t *testing.T) {
	var none *store.Store
	d, down := made(t, 64, 8)
	commits(t, down, 1, ok(1), txn(0, addClass(), makeNew(3, 0), root("h", -1), snapOp("s")))
	d.Cut(0)
	if errs, err := down.Commit([]api.Txn{txn(1, set(1, 4))}); len(errs) > 0 || err != api.ErrPower {
		t.Errorf("Commit without power: %v, %d", errs, err)
	}
	d.Cut(1000)
	for want, s := range map[api.Errno]*store.Store{api.ErrNil: none, api.ErrDown: down} {
		w, worldErr := s.World()
		x, atErr := s.At("")
		errs, commitErr := s.Commit(make([]api.Txn, 9))
		rest, collectErr := s.Collect(-1)
		l, askErr := s.Ask("")
		if worldErr != want || atErr != want || commitErr != want || collectErr != want || askErr != want {
			t.Errorf("%d: %d, %d, %d, %d, %d", want, worldErr, atErr, commitErr, collectErr, askErr)
		}
		if s.N() != 0 || len(s.Snaps())+len(s.Facts())+len(s.Chain())+s.Free()+len(errs)+len(l) > 0 || rest || !world.Same(w, api.World{}) || !world.Same(x, api.World{}) {
			t.Errorf("%d: something is told", want)
		}
	}
}

func TestAStoreIsDownIfPowerGoesWhileItSeals(t *testing.T) {
	for calls := range 4 {
		d, s := made(t, 64, 8)
		commits(t, s, 1, ok(1), txn(0, addClass(), makeNew(3, 0), root("h", -1)))
		// A write, and then what seals it: Sync, a write, Sync.
		d.Cut(calls)
		if errs, err := s.Commit([]api.Txn{txn(1, set(1, 4))}); len(errs) > 0 || err != api.ErrPower {
			t.Fatalf("cut behind %d: %v, %d", calls, errs, err)
		}
		d.Cut(1000)
		if errs, err := s.Commit([]api.Txn{txn(1, set(1, 4))}); len(errs) > 0 || err != api.ErrDown || s.N() != 0 || len(s.Facts()) > 0 {
			t.Errorf("cut behind %d: the store is not down: %v, %d", calls, errs, err)
		}
	}
}

func TestCommitRefuses(t *testing.T) {
	_, s := made(t, 64, 8)
	if errs, err := s.Commit(make([]api.Txn, 9)); len(errs) > 0 || err != api.ErrArg {
		t.Errorf("too many transactions: %v, %d", errs, err)
	}
	commits(t, s, 0, nil)
	commits(t, s, 0, ok(8), make([]api.Txn, 8)...)
	commits(t, s, 2, []api.Errno{0, api.ErrClash, api.ErrCommit, api.ErrCommit, api.ErrOp, 0}, txn(0, addClass()), txn(0, makeNew(1, 0)), txn(1, makeNew(1, 0)), txn(-1), txn(0, api.Op{}), txn(0, snapOp("s")))
	commits(t, s, 3, []api.Errno{0, api.ErrGone, api.ErrClash, 0}, txn(2, makeNew(1, 0), root("h", -1)), txn(2, set(7, 1)), txn(2, see("h")), txn(1, see("z")))
	if !slices.Equal(s.Snaps(), []api.Snap{{Name: "s", N: 2}}) {
		t.Errorf("Snaps: %v", s.Snaps())
	}
}

func TestLimitsAreToldAheadOfTheFirstWrite(t *testing.T) {
	d, s := made(t, 768, 64)
	commits(t, s, 1, ok(1), txn(0, addClass()))
	for i := range 10 {
		var ops []api.Op
		for k := range 19 {
			ops = append(ops, makeNew(k, -1-k-1))
		}
		ops[18].Vals[1] = api.Val{}
		commits(t, s, 2+i, ok(1), txn(1+i, append(ops, root("r"+string(rune('a'+i)), -1))...))
	}
	commits(t, s, 12, ok(1), txn(11, makeNew(0, 0), makeNew(0, -1), makeNew(0, -2), makeNew(0, -3), makeNew(0, -4), makeNew(0, -5), makeNew(0, -6), makeNew(0, -7), makeNew(0, -8), makeNew(0, -9), root("z", -10)))
	d.Cut(0)
	commits(t, s, 12, []api.Errno{api.ErrObjs, 0}, txn(12, makeNew(0, 0), root("y", -1)), txn(12, see("z")))
	d.Cut(1000)
	commits(t, s, 13, ok(1), txn(12, makeNew(0, 0), root("z", -1)))
	for i := range 9 {
		commits(t, s, 14+i, ok(1), txn(13+i, root("n"+string(rune('a'+i)), 1)))
	}
	commits(t, s, 23, []api.Errno{api.ErrRoots, 0, api.ErrRoots}, txn(22, root("q", 1)), txn(22, noRoot("na"), root("q", 1)), txn(22, root("na", 1)))
	for i := range 8 {
		commits(t, s, 24+i, ok(1), txn(23+i, snapOp("s"+string(rune('a'+i)))))
	}
	commits(t, s, 32, []api.Errno{api.ErrSnaps, 0, api.ErrSnaps}, txn(31, snapOp("t")), txn(31, noSnap("sa"), snapOp("t")), txn(31, snapOp("sa")))
}

func TestWhatIsTooLarge(t *testing.T) {
	_, s := made(t, 16, 4)
	wide := api.Class{Name: "w", Fields: []api.Field{{Name: "a", Type: api.Type{Kind: api.Text}}, {Name: "b", Type: api.Type{Kind: api.Text}}}}
	commits(t, s, 1, ok(1), txn(0, api.Op{Kind: api.OpClass, Def: wide}))
	large := func(n, m int) api.Op {
		return api.Op{Kind: api.OpNew, Class: "w", Vals: []api.Val{text(strings.Repeat("x", n)), text(strings.Repeat("y", m))}}
	}
	// One record has 6 bytes, and each text 2, beside their signs; one fact more: at most 95 are copied. A commit has at most 106.
	commits(t, s, 2, []api.Errno{api.ErrBig, 0}, txn(1, large(60, 26)), txn(1, large(60, 25)))
	commits(t, s, 2, []api.Errno{api.ErrBig}, txn(2, large(40, 0), large(45, 0)))
	if errs, err := s.Commit([]api.Txn{txn(2, large(60, 20)), txn(2, large(60, 20)), txn(2, large(60, 20))}); len(errs) > 0 || err != api.ErrFull || s.N() != 2 {
		t.Errorf("a full log: %v, %d, N %d", errs, err, s.N())
	}
	if len(s.Chain()) != 2 || s.Free() != 2 {
		t.Errorf("chain %v", s.Chain())
	}
}

func TestCollectRefusesAndRests(t *testing.T) {
	_, s := made(t, 64, 8)
	for _, steps := range []int{-1, 1001, math.MaxInt, math.MinInt} {
		if rest, err := s.Collect(steps); rest || err != api.ErrArg {
			t.Errorf("Collect(%d): %t, %d", steps, rest, err)
		}
	}
	for _, steps := range []int{0, 1000} {
		if rest, err := s.Collect(steps); !rest || err != api.OK {
			t.Errorf("Collect(%d) of nothing: %t, %d", steps, rest, err)
		}
	}
	commits(t, s, 1, ok(1), txn(0, addClass(), makeNew(3, -2), makeNew(4, 0), root("h", -1)))
	for i, want := range []bool{false, false, true, false, true} {
		if rest, err := s.Collect([]int{0, 1, 1, 0, 9}[i]); rest != want || err != api.OK {
			t.Errorf("call %d: %t, %d", i, rest, err)
		}
	}
	s.Collect(1)
	commits(t, s, 2, ok(1), txn(1, makeNew(5, 0), root("k", -1)))
	for i, want := range []bool{false, true} {
		if rest, err := s.Collect(1); rest != want || err != api.OK {
			t.Errorf("with what was written, call %d: %t, %d", i, rest, err)
		}
	}
}

func TestASnapshotIsNothingToMark(t *testing.T) {
	_, s := made(t, 64, 8)
	commits(t, s, 1, ok(1), txn(0, addClass(), makeNew(3, 0), makeNew(4, 0), root("h", -2)))
	s.Collect(0)
	commits(t, s, 2, ok(1), txn(1, snapOp("s")))
	if rest, err := s.Collect(1); !rest || err != api.OK {
		t.Errorf("one step is left: %t, %d", rest, err)
	}
}

// rested collects until there is nothing to do any more.
func rested(t *testing.T, s *store.Store) int {
	t.Helper()
	for turns := range 60 {
		rest, err := s.Collect(1000)
		if err != api.OK {
			t.Fatalf("Collect: %d", err)
		}
		if rest {
			return turns
		}
	}
	t.Fatal("collecting does not come to rest")
	return 0
}

func TestCollectFreesSegments(t *testing.T) {
	d, s := made(t, 48, 4)
	commits(t, s, 1, ok(1), txn(0, addClass(), makeNew(3, 0), root("h", -1), snapOp("s")))
	full := 0
	for n := 1; n < 60; n++ {
		errs, err := s.Commit([]api.Txn{txn(n, set(1, n))})
		if err == api.ErrFull {
			full++
			rested(t, s)
			errs, err = s.Commit([]api.Txn{txn(n, set(1, n))})
		}
		if !slices.Equal(errs, ok(1)) || err != api.OK {
			t.Fatalf("commit %d: %v, %d", n+1, errs, err)
		}
		answers(t, s, "h.a", n)
		if w, err := s.At("s"); len(w.Objs) != 1 || w.Objs[0].Vals[0].N != 3 || w.Next != 2 || err != api.OK {
			t.Fatalf("the snapshot behind commit %d: %v, %d", n+1, w, err)
		}
	}
	if full < 3 {
		t.Errorf("the log was full %d times", full)
	}
	rested(t, s)
	if len(s.Chain()) > 3 || len(s.Facts()) > 12 {
		t.Errorf("chain %v, %d facts", s.Chain(), len(s.Facts()))
	}
	if errs, _ := s.Commit([]api.Txn{txn(20, see("z")), txn(60, see("z"))}); !slices.Equal(errs, []api.Errno{api.ErrCommit, 0}) {
		t.Errorf("who began ahead of a collection: %v", errs)
	}
	d.Crash(nil)
	again, _, err := store.Open(d, 4)
	if err != api.OK || again.N() != 60 {
		t.Fatalf("opened again: %d, N %d", err, again.N())
	}
	answers(t, again, "h.a", 59)
	if _, err := again.At("t"); err != api.ErrSnap {
		t.Errorf("no snapshot: %d", err)
	}
}

func TestNumbersOutliveWhatToldThem(t *testing.T) {
	d, s := made(t, 48, 4)
	commits(t, s, 1, ok(1), txn(0, addClass(), makeNew(3, 0), root("h", -1)))
	n := 1
	for range 5 {
		commits(t, s, n+1, ok(1), txn(n, makeNew(1, 0), makeNew(2, 0), root("k", -1)))
		commits(t, s, n+2, ok(1), txn(n+1, noRoot("k")))
		n += 2
		rested(t, s)
	}
	w, err := s.World()
	if w.Next != 12 || len(w.Objs) != 1 || err != api.OK {
		t.Errorf("World: %v, %d", w, err)
	}
	d.Crash(nil)
	again, _, _ := store.Open(d, 4)
	if got, _ := again.World(); !world.Same(got, w) || again.N() != n {
		t.Errorf("opened again: %v, N %d", got, again.N())
	}
}

// TestNoSegmentIsFreeForTheNumbers has a log of four segments, of which just the first one holds a batch, of which nothing is needed.
func TestNoSegmentIsFreeForTheNumbers(t *testing.T) {
	d, _ := disk.New(16)
	uses := ""
	for seg, count := range []byte{3, 1, 1, 1} {
		write(d, 4*seg, api.Frame{Epoch: seg + 1, Kind: api.FLink, S: uses + strings.Repeat("\x00", 16-len(uses))})
		uses += string([]byte{0, 0, byte(seg + 1), count})
	}
	write(d, 1, api.Frame{Epoch: 1, At: 1, Kind: api.FEnd, S: commit(t, 1)})
	write(d, 2, api.Frame{Epoch: 1, At: 2, Kind: api.FSeal})
	d.Sync()
	s, _, err := store.Open(d, 4)
	if err != api.OK || s.Free() != 0 {
		t.Fatalf("Open: %d, free %d", err, s.Free())
	}
	for i, want := range [][]api.Use{{{Epoch: 1, Sectors: 3}, {Epoch: 4, Sectors: 1}}, {{Epoch: 4, Sectors: 1}, {Epoch: 5, Sectors: 3}}, {{Epoch: 5, Sectors: 3}}, {{Epoch: 5, Sectors: 3}}} {
		rest, err := s.Collect(0)
		w, _ := s.World()
		if rest != (i == 3) || err != api.OK || !slices.Equal(s.Chain(), want) || s.N() != 1 || w.Next != 9 {
			t.Fatalf("call %d: %t, %d, chain %v, N %d, next %d", i, rest, err, s.Chain(), s.N(), w.Next)
		}
	}
}

func write(d *disk.Disk, sector int, f api.Frame) {
	s, _ := frame.Lay(f)
	d.Write(sector, s)
}

func TestAskAndNothingIsShared(t *testing.T) {
	_, s := made(t, 64, 8)
	x := []api.Txn{txn(0, addClass(), makeNew(3, 0), root("h", -1))}
	commits(t, s, 1, ok(1), x...)
	x[0].Ops[1].Vals[0].N = 99
	w, _ := s.World()
	w.Objs[0].Vals[0].N = 98
	s.Facts()[1].Rec.Obj.Vals[0].N = 97
	answers(t, s, "h.a", 3)
	if l, err := s.Ask("all c where a = 3"); len(l) != 1 || !val.Same(l[0], api.Val{Kind: api.Ref, N: 1}) || err != api.OK {
		t.Errorf("a find: %v, %d", l, err)
	}
	for q, want := range map[string]api.Errno{"": api.ErrQuery, "x": api.ErrNone, "all x": api.ErrClass, "h.x": api.ErrField} {
		if l, err := s.Ask(q); len(l) > 0 || err != want {
			t.Errorf("%q: %v, %d", q, l, err)
		}
	}
}

// agrees checks that a store answers as the model does, newest world and snapshots.
func agrees(t *testing.T, s *store.Store, m *model) {
	t.Helper()
	next := m.last().world.Next
	if s.N() != m.n() {
		t.Fatalf("N is %d, and should be %d", s.N(), m.n())
	}
	if w, err := s.World(); !world.Same(w, m.live(m.n(), next)) || err != api.OK {
		t.Fatalf("World: %v, %d, want %v", w, err, m.live(m.n(), next))
	}
	if !slices.Equal(s.Snaps(), m.last().snapList()) {
		t.Fatalf("Snaps: %v, want %v", s.Snaps(), m.last().snapList())
	}
	for name, n := range m.last().snaps {
		if w, err := s.At(name); !world.Same(w, m.live(n, next)) || err != api.OK {
			t.Fatalf("At %s: %v, %d, want %v", name, w, err, m.live(n, next))
		}
	}
}

// group makes transactions that fit a store's world, of bases that may be or not.
func (k maker) group(m *model) (t []api.Txn) {
	for range 1 + k.r.Intn(3) {
		base := m.n()
		if k.r.Intn(3) == 0 {
			base -= k.r.Intn(3)
		}
		t = append(t, k.txn(m.last().world, base))
	}
	return t
}

// session goes on with a store and a model of it, through power losses and collections.
type session struct {
	maker
	d     *disk.Disk
	s     *store.Store
	m     *model
	per   int
	acked int
}

func newSession(t *testing.T, r *rand.Rand) *session {
	per := 8 + r.Intn(12)
	d, s := made(t, per*(4+r.Intn(9)), per)
	return &session{maker: maker{r}, d: d, s: s, m: newModel(per), per: per}
}

// commit does a group, and tells whether there is power still.
func (x *session) commit(t *testing.T) bool {
	t.Helper()
	group := x.group(x.m)
	was := *x.m
	wasChanged := was.changed
	x.m.changed = cloned(wasChanged)
	want := x.m.commit(group)
	got, err := x.s.Commit(group)
	switch {
	case err == api.ErrPower:
		return false
	case err == api.ErrFull && x.m.n() > was.n():
		*x.m = was
	case err != api.OK || !slices.Equal(got, want):
		t.Fatalf("Commit of %v: %v, %d, want %v", group, got, err, want)
	}
	x.acked = x.m.n()
	return true
}

func cloned(m map[string]int) map[string]int {
	made := map[string]int{}
	for key, n := range m {
		made[key] = n
	}
	return made
}

// collect collects some steps, and tells whether there is power still.
func (x *session) collect(t *testing.T) bool {
	t.Helper()
	before := x.s.Chain()
	rest, err := x.s.Collect(x.r.Intn(12))
	if err == api.ErrPower {
		return false
	}
	if err != api.OK {
		t.Fatalf("Collect: %d", err)
	}
	for _, u := range before {
		gone := !slices.ContainsFunc(x.s.Chain(), func(v api.Use) bool { return v.Epoch == u.Epoch })
		if gone {
			x.m.floor = x.m.n()
		}
	}
	if rest {
		x.checkRoom(t)
	}
	return true
}

// checkRoom checks that a log at rest has at most one segment more than twice as many as what is needed fills.
func (x *session) checkRoom(t *testing.T) {
	t.Helper()
	need, err := needed(x.s.Facts())
	least, leastErr := sweep.Least(need, x.per)
	if len(x.s.Chain()) > 2*least+1 || err != api.OK || leastErr != api.OK {
		t.Fatalf("at rest with %v, where %d segments are filled", x.s.Chain(), least)
	}
}

// crash loses power, and opens the store again: it has a beginning of the commits that holds all that were acknowledged.
func (x *session) crash(t *testing.T) {
	t.Helper()
	for {
		keep := x.r.Perm(x.d.Pending())[:x.r.Intn(x.d.Pending()+1)]
		if err := x.d.Crash(keep); err != api.OK {
			t.Fatalf("Crash: %d", err)
		}
		if x.r.Intn(3) == 0 {
			x.d.Cut(x.r.Intn(10))
		}
		s, sector, err := store.Open(x.d, x.per)
		if err == api.ErrPower {
			continue
		}
		if err != api.OK {
			t.Fatalf("Open: %d, %d", sector, err)
		}
		if s.N() < x.acked || s.N() > x.m.n() {
			t.Fatalf("behind a power loss N is %d, of %d, %d acknowledged", s.N(), x.m.n(), x.acked)
		}
		x.s = s
		x.m.cut(s.N())
		x.acked = s.N()
		return
	}
}

func TestAStoreIsAPlainMapThroughPowerLossesAndCollections(t *testing.T) {
	r := rand.New(rand.NewSource(26))
	for range 20 {
		x := newSession(t, r)
		for range 60 {
			power := true
			if r.Intn(8) == 0 {
				x.d.Cut(r.Intn(14))
			}
			if r.Intn(3) > 0 {
				power = x.commit(t)
			} else {
				power = x.collect(t)
			}
			if !power || r.Intn(15) == 0 {
				x.crash(t)
			}
			agrees(t, x.s, x.m)
		}
	}
}

// TestRotIsToldOrWithoutBearing turns a bit of each byte of the disk between two openings.
func TestRotIsToldOrWithoutBearing(t *testing.T) {
	r := rand.New(rand.NewSource(27))
	for range 2 {
		x := newSession(t, r)
		for range 20 {
			x.commit(t)
			if r.Intn(3) == 0 {
				x.collect(t)
			}
		}
		x.crash(t)
		x.d.Crash(nil)
		told := 0
		for sector := range x.d.Size() {
			for place := r.Intn(8); place < api.Sector; place += 8 {
				mask := 1 << r.Intn(8)
				x.d.Rot(sector, place, mask)
				s, at, err := store.Open(x.d, x.per)
				switch {
				case err == api.ErrRot && at == sector:
					told++
					x.d.Rot(sector, place, mask)
				case err != api.OK:
					t.Fatalf("byte %d of sector %d: %d, %d", place, sector, at, err)
				default:
					agrees(t, s, x.m)
				}
			}
		}
		if told == 0 {
			t.Error("nothing is told")
		}
	}
}
