package table_test

import (
	"math"
	"math/rand"
	"slices"
	"testing"

	"moraine/api"
	"moraine/obj"
	"moraine/table"
	"moraine/world"
)

func num(n int) api.Val  { return api.Val{Kind: api.Num, N: n} }
func ref(n int) api.Val  { return api.Val{Kind: api.Ref, N: n} }
func weak(n int) api.Val { return api.Val{Kind: api.Weak, N: n} }

func node() api.Class {
	return api.Class{Name: "node", Fields: []api.Field{{Name: "n", Type: api.Type{Kind: api.Num}}, {Name: "next", Type: api.Type{Kind: api.Ref}}, {Name: "w", Type: api.Type{Kind: api.Weak}}}}
}

// at is a node of that number, with references to two others (0: none).
func at(id, n, next, to int) api.Obj {
	o := api.Obj{ID: id, Vals: []api.Val{num(n), {}, {}}}
	if next != 0 {
		o.Vals[1] = ref(next)
	}
	if to != 0 {
		o.Vals[2] = weak(to)
	}
	return o
}

func put(o api.Obj) api.Rec             { return api.Rec{Kind: api.RPut, Obj: o} }
func root(name string, id int) api.Rec  { return api.Rec{Kind: api.RRoot, Name: name, ID: id} }
func snap(name string, id int) api.Rec  { return api.Rec{Kind: api.RSnap, Name: name, ID: id} }
func class(id int, c api.Class) api.Rec { return api.Rec{Kind: api.RClass, ID: id, Class: c} }
func change(id, ver int, ch api.Change) api.Rec {
	return api.Rec{Kind: api.RChange, ID: id, Ver: ver, Change: ch}
}

func drop(field string) api.Change { return api.Change{Kind: api.ChDrop, Field: field} }

func fact(n int, r api.Rec) api.Fact { return api.Fact{N: n, Epoch: 1, Rec: r} }

// facts are those of commits, from 1 on.
func facts(commits ...[]api.Rec) (l []api.Fact) {
	for i, recs := range commits {
		for _, r := range recs {
			l = append(l, fact(i+1, r))
		}
	}
	return l
}

func recs(l ...api.Rec) []api.Rec { return l }

func example() []api.Fact {
	return facts(recs(class(0, node()), put(at(1, 5, 0, 0)), root("a", 1)), recs(put(at(1, 6, 0, 0))))
}

// wrong are facts that are not right, with the number of the first one.
func wrong() map[int][]api.Fact {
	good := example()
	return map[int][]api.Fact{
		0: {{}}, 1: {good[0], good[0]}, 2: {good[0], good[2], good[1]}, 3: append(append([]api.Fact{}, good[:3]...), fact(0, put(at(2, 1, 0, 0)))), 4: append(append([]api.Fact{}, good...), fact(1, put(at(2, 1, 0, 0)))),
		5: append(facts(recs(class(0, node()), class(1, node()), change(0, 1, drop("n")), put(at(2, 1, 0, 0)), put(at(10, 1, 0, 0)))), fact(1, put(at(3, 0, 0, 0)))),
	}
}

func TestCheck(t *testing.T) {
	for i, l := range [][]api.Fact{nil, example(), facts(recs(class(0, node()), change(0, 2, drop("n")), put(at(2, 0, 0, 0)), put(at(10, 0, 0, 0)), root("a", 0), root("b", 0), snap("a", 1)), nil, recs(class(0, node())))} {
		if at, err := table.Check(l); at != 0 || err != api.OK {
			t.Errorf("facts %d: %d, %d", i, at, err)
		}
	}
	for want, l := range wrong() {
		at, err := table.Check(l)
		put, putErr := table.Put(l, fact(9, root("z", 0)))
		w, worldErr := table.World(l, -1)
		keys, keysErr := table.Changed(l, 0)
		if at != want || err != api.ErrTable || putErr != api.ErrTable || worldErr != api.ErrTable || keysErr != api.ErrTable {
			t.Errorf("wrong facts %d: %d, %d, %d, %d, %d", want, at, err, putErr, worldErr, keysErr)
		}
		if len(put) > 0 || len(keys) > 0 || !world.Same(w, api.World{}) {
			t.Errorf("wrong facts %d: something beside the error", want)
		}
	}
	for i, f := range []api.Fact{{N: 1, Epoch: -1, Rec: root("a", 0)}, {N: 1, Epoch: api.MaxEpoch + 1, Rec: root("a", 0)}, {N: 0, Rec: root("a", 0)}, {N: -1, Rec: root("a", 0)}, {N: 1, Rec: root("A", 0)}, {N: 1}} {
		if _, err := table.Check([]api.Fact{f}); err != api.ErrTable {
			t.Errorf("wrong fact %d: %d", i, err)
		}
		if l, err := table.Put(example(), f); len(l) > 0 || err != api.ErrTable {
			t.Errorf("Put of wrong fact %d: %d", i, err)
		}
	}
	for _, f := range []api.Fact{{N: math.MaxInt, Epoch: 0, Rec: root("a", 0)}, {N: 1, Epoch: api.MaxEpoch, Rec: root("a", 0)}} {
		if _, err := table.Check([]api.Fact{f}); err != api.OK {
			t.Errorf("a right fact: %d", err)
		}
	}
}

func TestSameAndNewest(t *testing.T) {
	good := example()
	other := example()
	other[3].Epoch = 2
	all := [][]api.Fact{nil, good, good[:3], other, {fact(9, api.Rec{})}, {fact(9, api.Rec{Kind: -1})}, {{N: 8}}}
	for i, a := range all {
		for j, b := range all {
			if table.Same(a, b) != (i == j) {
				t.Errorf("Same of %d and %d is %t", i, j, i != j)
			}
		}
	}
	for want, l := range map[int][]api.Fact{0: nil, 2: good, 1: good[:3], -7: {good[0], {N: -7}}} {
		if got := table.Newest(l); got != want {
			t.Errorf("Newest: %d, want %d", got, want)
		}
	}
}

func TestPut(t *testing.T) {
	l := example()
	spare := append(make([]api.Fact, 0, 20), l...)
	newer := api.Fact{N: 1, Epoch: 7, Rec: put(at(1, 99, 0, 0))}
	got, err := table.Put(spare, newer)
	if want := []api.Fact{l[0], newer, l[2], l[3]}; !table.Same(got, want) || err != api.OK {
		t.Errorf("Put in the place of one: %v, %d", got, err)
	}
	for at, f := range map[int]api.Fact{2: fact(1, put(at(2, 0, 0, 0))), 3: fact(1, snap("s", 1)), 4: fact(2, put(at(3, 0, 0, 0))), 5: fact(3, class(1, node())), 1: fact(1, change(0, 1, drop("n")))} {
		got, err := table.Put(spare, f)
		want := slices.Insert(slices.Clone(l), min(at, 4), f)
		if !table.Same(got, want) || err != api.OK {
			t.Errorf("Put at %d: %v, %d", at, got, err)
		}
		got[0].Rec.Class.Fields[0].Name = "q"
		got[1].Rec.Obj.ID = 77
	}
	if !table.Same(l, example()) || spare[:5][4].N != 0 {
		t.Error("what was handed in has changed")
	}
	one, _ := table.Put(nil, newer)
	one[0].Rec.Obj.Vals[0].N = 5
	if newer.Rec.Obj.Vals[0].N != 99 {
		t.Error("what was put is shared")
	}
}

func TestWorld(t *testing.T) {
	schema := api.Schema{Lines: []api.Line{{First: node()}}}
	l := example()
	for n, want := range []api.World{{Next: 1}, {Schema: schema, Objs: []api.Obj{at(1, 5, 0, 0)}, Roots: []api.Root{{Name: "a", ID: 1}}, Next: 2}, {Schema: schema, Objs: []api.Obj{at(1, 6, 0, 0)}, Roots: []api.Root{{Name: "a", ID: 1}}, Next: 2}} {
		if w, err := table.World(l, n); !world.Same(w, want) || err != api.OK {
			t.Errorf("World at %d: %v, %d", n, w, err)
		}
	}
	for _, n := range []int{-1, 3, math.MaxInt, math.MinInt} {
		if w, err := table.World(l, n); !world.Same(w, api.World{}) || err != api.ErrCommit {
			t.Errorf("World at %d: %v, %d", n, w, err)
		}
	}
	if w, err := table.World(nil, 0); !world.Same(w, api.World{Next: 1}) || err != api.OK {
		t.Errorf("World of nothing: %v, %d", w, err)
	}
	w, _ := table.World(l, 2)
	w.Objs[0].Vals[0].N, w.Schema.Lines[0].First.Fields[0].Name = 99, "q"
	if !table.Same(l, example()) {
		t.Error("what was handed in has changed")
	}
}

func TestWhatFallsOut(t *testing.T) {
	for i, x := range []struct {
		l     []api.Fact
		objs  []int
		roots []string
		next  int
	}{
		{facts(recs(class(0, node()), put(at(1, 0, 2, 0)), root("a", 1))), nil, nil, 2},
		{facts(recs(class(0, node()), put(at(1, 0, 2, 0)), put(at(2, 0, 3, 0)), put(at(3, 0, 9, 0)), put(at(4, 0, 0, 9)), root("a", 1), root("b", 4), root("c", 99))), []int{4}, []string{"b"}, 5},
		{facts(recs(class(0, node()), put(at(1, 0, 2, 0)), put(at(2, 0, 1, 0)), root("a", 1))), []int{1, 2}, []string{"a"}, 3},
		{facts(recs(class(0, node()), put(at(1, 0, 2, 0)), put(at(2, 0, 1, 0)), root("a", 1)), recs(put(at(2, 0, 7, 0)))), nil, nil, 3},
		{facts(recs(class(0, node()), put(at(5, 0, 0, 0)), root("a", 5)), recs(root("a", 0))), []int{5}, nil, 6},
		{facts(recs(class(0, node()), put(at(5, 0, 0, 0)), root("a", 5)), recs(root("a", 0)), recs(root("a", 5), snap("x", 1))), []int{5}, []string{"a"}, 6},
		{facts(recs(put(at(7, 0, 0, 0)))), nil, nil, 8},
		{facts(recs(class(0, node()), put(api.Obj{ID: 1, Ver: 1}), put(api.Obj{ID: 2, Class: 1}), put(at(3, 0, 1, 0)))), nil, nil, 4},
		{facts(recs(class(0, node()), put(at(1, 0, 9, 0)), root("a", 1)), recs(change(0, 1, drop("next")))), []int{1}, []string{"a"}, 2},
		{facts(recs(put(at(api.MaxID, 0, 0, 0)))), nil, nil, api.MaxID + 1},
	} {
		w, err := table.World(x.l, table.Newest(x.l))
		var objs []int
		var roots []string
		for _, o := range w.Objs {
			objs = append(objs, o.ID)
		}
		for _, r := range w.Roots {
			roots = append(roots, r.Name)
		}
		if err != api.OK || !slices.Equal(objs, x.objs) || !slices.Equal(roots, x.roots) || w.Next != x.next || world.Check(w) != api.OK {
			t.Errorf("case %d: %v, %v, %d, %d", i, objs, roots, w.Next, err)
		}
	}
}

func TestSchemasThatCanNotBe(t *testing.T) {
	for i, l := range [][]api.Fact{
		facts(recs(class(1, node()))), facts(recs(class(0, node())), recs(class(0, node()))), facts(recs(class(0, node()), class(1, node()))), facts(recs(change(0, 1, drop("n")))), facts(recs(class(0, node()), change(0, 2, drop("n")))), facts(recs(class(0, node()), change(0, 1, drop("x")))),
	} {
		if w, err := table.World(l, table.Newest(l)); !world.Same(w, api.World{}) || err != api.ErrTable {
			t.Errorf("case %d: %v, %d", i, w, err)
		}
		if w, err := table.World(l, 0); !world.Same(w, api.World{Next: 1}) || err != api.OK {
			t.Errorf("case %d, up to none: %v, %d", i, w, err)
		}
	}
}

func TestChanged(t *testing.T) {
	l := facts(recs(class(0, node()), class(1, api.Class{Name: "d"}), put(at(10, 0, 0, 0)), root("a", 1)), recs(change(0, 1, drop("n")), put(at(2, 0, 0, 0)), put(at(10, 0, 0, 0)), root("b", 0), snap("z", 1)), recs(put(at(2, 0, 0, 0))))
	for after, want := range map[int][]string{-1: {"nz", "o10", "o2", "ra", "rb", "s"}, 0: {"nz", "o10", "o2", "ra", "rb", "s"}, 1: {"nz", "o10", "o2", "rb", "s"}, 2: {"o2"}, 3: nil, math.MaxInt: nil} {
		if got, err := table.Changed(l, after); !slices.Equal(got, want) || err != api.OK {
			t.Errorf("Changed behind %d: %v, %d", after, got, err)
		}
	}
	if got, _ := table.Changed(example(), 1); !slices.Equal(got, []string{"o1"}) {
		t.Errorf("the example: %v", got)
	}
}

// TestFactsOfCommitsMakeTheWorldsThatTheyMade does random commits on worlds, and asks the table for each of them.
func TestFactsOfCommitsMakeTheWorldsThatTheyMade(t *testing.T) {
	r := rand.New(rand.NewSource(14))
	for range 300 {
		w := api.World{Next: 1}
		var l []api.Fact
		worlds := []api.World{w}
		commits := [][]api.Rec{{class(0, node())}}
		for range 8 {
			commits = append(commits, anyCommit(r))
		}
		for i, recs := range commits {
			if i == 4 {
				recs = append(recs, change(0, 1, api.Change{Kind: api.ChAdd, Name: "m", Type: api.Type{Kind: api.Num}, Expr: "n*2"}))
			}
			next, _, err := world.Apply(w, recs)
			if err != api.OK {
				next = w
				recs = nil
			}
			w = next
			worlds = append(worlds, w)
			for _, one := range recs {
				l, _ = table.Put(l, api.Fact{N: i + 1, Epoch: r.Intn(5), Rec: one})
			}
			l, _ = table.Put(l, fact(i+1, snap("s", 1)))
		}
		for n, want := range worlds {
			got, err := table.World(l, n)
			a, _ := world.Live(got)
			b, _ := world.Live(want)
			a.Next, b.Next = 0, 0
			if err != api.OK || !world.Same(a, b) {
				t.Fatalf("commit %d: %v, %d, want %v", n, a, err, b)
			}
		}
		checkWhatIsNotReachedMayFallOut(t, l, w)
	}
}

// anyCommit are records of some nodes and roots.
func anyCommit(r *rand.Rand) (l []api.Rec) {
	for id := 1; id <= 5; id++ {
		if r.Intn(3) == 0 {
			l = append(l, put(at(id, r.Intn(9), r.Intn(6), r.Intn(6))))
		}
	}
	for _, name := range []string{"a", "b"} {
		if r.Intn(2) == 0 {
			l = append(l, root(name, r.Intn(6)))
		}
	}
	return l
}

func checkWhatIsNotReachedMayFallOut(t *testing.T, l []api.Fact, w api.World) {
	t.Helper()
	ids, _ := world.Reach(w)
	left := slices.DeleteFunc(slices.Clone(l), func(f api.Fact) bool { return f.Rec.Kind == api.RPut && !slices.Contains(ids, f.Rec.Obj.ID) })
	for i := range left {
		left[i].Epoch = 9
		if f := &left[i]; f.Rec.Kind == api.RPut {
			if now, err := obj.Latest(w.Schema, f.Rec.Obj); err == api.OK {
				f.Rec.Obj = now
			}
		}
	}
	got, err := table.World(left, table.Newest(left))
	a, _ := world.Live(got)
	b, _ := world.Live(w)
	a.Next, b.Next = 0, 0
	if err != api.OK || !world.Same(a, b) {
		t.Fatalf("without what is not reached: %v, %d, want %v", a, err, b)
	}
}
