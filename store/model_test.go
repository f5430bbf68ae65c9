package store_test

import (
	"maps"
	"math/rand"
	"slices"
	"strconv"

	"moraine/api"
	"moraine/keep"
	"moraine/limit"
	"moraine/op"
	"moraine/rec"
	"moraine/recover"
	"moraine/world"
)

// state is what a plain map is behind a commit.
type state struct {
	world api.World
	snaps map[string]int
}

// model is a plain map through all its commits, with the commit that told a key last.
type model struct {
	states  []state
	changed map[string]int
	floor   int
	per     int
}

func newModel(per int) *model {
	return &model{states: []state{{api.World{Next: 1}, nil}}, changed: map[string]int{}, per: per}
}

func (m *model) n() int { return len(m.states) - 1 }

func (m *model) last() state { return m.states[m.n()] }

// cut leaves the states up to a commit: who begins ahead of it has to begin anew.
func (m *model) cut(n int) {
	m.states, m.floor, m.changed = m.states[:n+1], n, map[string]int{}
}

// live is what is reached in the world of a commit, with a next number.
func (m *model) live(n, next int) api.World {
	w, _ := world.Live(m.states[n].world)
	w.Next = next
	return w
}

// commit does transactions, and tells the errors that a store has to tell.
func (m *model) commit(t []api.Txn) []api.Errno {
	var errs []api.Errno
	first := m.n()
	for _, x := range t {
		errs = append(errs, m.one(x, first))
	}
	return errs
}

func (m *model) one(x api.Txn, first int) api.Errno {
	was := m.last()
	if x.Base < m.floor || x.Base > first {
		return api.ErrCommit
	}
	recs, reads, next, err := op.Run(was.world, x.Ops)
	if err != api.OK {
		return err
	}
	for _, key := range reads {
		if m.changed[key] > x.Base {
			return api.ErrClash
		}
	}
	if len(recs) == 0 {
		return api.OK
	}
	b := api.Batch{Kind: api.BCommit, N: m.n() + 1, Next: next, Recs: recs}
	if _, err := rec.Encode(b); err != api.OK {
		return api.ErrRec
	}
	var snaps []api.Snap
	for name := range was.snaps {
		snaps = append(snaps, api.Snap{Name: name})
	}
	if err := limit.Check(was.world, snaps, recs); err != api.OK {
		return err
	}
	if fits, _ := limit.Fits(b, m.per); !fits {
		return api.ErrBig
	}
	for _, r := range recs {
		if _, err := recover.Batches([]api.Fact{{N: b.N, Rec: r}}, b.N, next, m.per); err != api.OK {
			return api.ErrBig
		}
	}
	m.do(was, b)
	return api.OK
}

func (m *model) do(was state, b api.Batch) {
	w, _, _ := world.Apply(was.world, b.Recs)
	w.Next = b.Next
	now := state{w, maps.Clone(was.snaps)}
	for _, r := range b.Recs {
		switch r.Kind {
		case api.RClass, api.RChange:
			m.changed["s"] = b.N
		case api.RSnap:
			if now.snaps == nil {
				now.snaps = map[string]int{}
			}
			delete(now.snaps, r.Name)
			if r.ID == 1 {
				now.snaps[r.Name] = b.N
			}
			m.changed[rec.Key(r)] = b.N
		default:
			m.changed[rec.Key(r)] = b.N
		}
	}
	m.states = append(m.states, now)
}

// snapList are the snapshots of a state, by names.
func (s state) snapList() (l []api.Snap) {
	for _, name := range slices.Sorted(maps.Keys(s.snaps)) {
		l = append(l, api.Snap{Name: name, N: s.snaps[name]})
	}
	return l
}

// node is the class of what random transactions make.
func node() api.Class {
	return api.Class{Name: "node", Fields: []api.Field{{Name: "n", Type: api.Type{Kind: api.Num}}, {Name: "next", Type: api.Type{Kind: api.Ref}}, {Name: "w", Type: api.Type{Kind: api.Weak}}, {Name: "t", Type: api.Type{Kind: api.Text}}}}
}

func num(n int) api.Val     { return api.Val{Kind: api.Num, N: n} }
func text(s string) api.Val { return api.Val{Kind: api.Text, S: s} }

// maker makes random transactions that fit a world.
type maker struct {
	r *rand.Rand
}

// to is a reference of a kind to something, or to nothing.
func (k maker) to(kind int, ids []int) api.Val {
	if len(ids) == 0 || k.r.Intn(4) == 0 {
		return api.Val{}
	}
	return api.Val{Kind: kind, N: ids[k.r.Intn(len(ids))]}
}

// vals are values of a class's fields.
func (k maker) vals(c api.Class, ids []int) (l []api.Val) {
	for _, f := range c.Fields {
		l = append(l, k.val(f, ids))
	}
	return l
}

func (k maker) val(f api.Field, ids []int) api.Val {
	switch f.Type.Kind {
	case api.Num:
		return num(k.r.Intn(2000))
	case api.Text:
		return text(string(slices.Repeat([]byte{byte('a' + k.r.Intn(26))}, k.r.Intn(12))))
	}
	return k.to(f.Type.Kind, ids)
}

// newest is the class as it is now, if there is one.
func newest(w api.World) (api.Class, bool) {
	if len(w.Schema.Lines) == 0 {
		return api.Class{}, false
	}
	line := w.Schema.Lines[0]
	made, _, err := world.Apply(api.World{Next: 1, Schema: api.Schema{Lines: []api.Line{line}}}, nil)
	if err != api.OK {
		return api.Class{}, false
	}
	return lastClass(made.Schema), true
}

func (k maker) txn(w api.World, base int) api.Txn {
	t := api.Txn{Base: base}
	c, ok := newest(w)
	if !ok {
		t.Ops = []api.Op{{Kind: api.OpClass, Def: node()}}
		return t
	}
	ids, _ := world.Reach(w)
	news := k.r.Intn(3)
	for i := range news {
		ids = append(ids, -1-i)
		t.Ops = append(t.Ops, api.Op{Kind: api.OpNew, Class: "node", Vals: nil})
	}
	for i := range news {
		t.Ops[i].Vals = k.vals(c, ids)
	}
	for range k.r.Intn(4) {
		t.Ops = append(t.Ops, k.op(c, ids))
	}
	return t
}

func (k maker) op(c api.Class, ids []int) api.Op {
	name := string(rune('a' + k.r.Intn(5)))
	id := 7
	if len(ids) > 0 {
		id = ids[k.r.Intn(len(ids))]
	}
	switch k.r.Intn(12) {
	case 0, 1, 2:
		f := c.Fields[k.r.Intn(len(c.Fields))]
		return api.Op{Kind: api.OpSet, ID: id, Name: f.Name, Val: k.val(f, ids)}
	case 3, 4, 5:
		return api.Op{Kind: api.OpRoot, Name: name, ID: id}
	case 6:
		return api.Op{Kind: api.OpNoRoot, Name: name}
	case 7:
		return api.Op{Kind: api.OpRead, ID: max(id, 1)}
	case 8:
		return api.Op{Kind: api.OpReadRoot, Name: name}
	case 9:
		return api.Op{Kind: api.OpSnap, Name: "s" + name}
	case 10:
		return api.Op{Kind: api.OpNoSnap, Name: "s" + name}
	}
	return api.Op{Kind: api.OpChange, Class: "node", Change: k.change(c)}
}

func (k maker) change(c api.Class) api.Change {
	number := api.Type{Kind: api.Num}
	if len(c.Fields) < 6 && k.r.Intn(2) == 0 {
		return api.Change{Kind: api.ChAdd, Name: "x" + strconv.Itoa(k.r.Intn(100)), Type: number, Expr: "n * 2 + 1"}
	}
	f := c.Fields[k.r.Intn(len(c.Fields))]
	if f.Name[0] == 'x' {
		return api.Change{Kind: api.ChDrop, Field: f.Name}
	}
	if f.Name == "t" {
		return api.Change{Kind: api.ChTurn, Field: "t", Type: f.Type, Expr: "left(t, 3) & text(n)"}
	}
	return api.Change{Kind: api.ChIndex, Field: "n"}
}

// needed are the facts that a log at rest has to hold.
func needed(l []api.Fact) ([]api.Fact, api.Errno) { return keep.Needed(l) }
