package snap_test

import (
	"math/rand"
	"slices"
	"testing"

	"moraine/api"
	"moraine/snap"
	"moraine/table"
	"moraine/world"
)

func class() api.Class {
	return api.Class{Name: "c", Fields: []api.Field{{Name: "a", Type: api.Type{Kind: api.Num}}, {Name: "w", Type: api.Type{Kind: api.Weak}}}}
}

func at(id, a, w int) api.Obj {
	o := api.Obj{ID: id, Vals: []api.Val{{Kind: api.Num, N: a}, {}}}
	if w > 0 {
		o.Vals[1] = api.Val{Kind: api.Weak, N: w}
	}
	return o
}

func put(o api.Obj) api.Rec               { return api.Rec{Kind: api.RPut, Obj: o} }
func taken(name string, id int) api.Rec   { return api.Rec{Kind: api.RSnap, Name: name, ID: id} }
func rootRec(name string, id int) api.Rec { return api.Rec{Kind: api.RRoot, Name: name, ID: id} }

func fact(n int, r api.Rec) api.Fact { return api.Fact{N: n, Rec: r} }

func facts() []api.Fact {
	return []api.Fact{
		fact(1, api.Rec{Kind: api.RClass, Class: class()}), fact(1, put(at(1, 5, 0))), fact(1, rootRec("h", 1)), fact(1, taken("z", 1)), fact(2, put(at(1, 6, 0))), fact(2, taken("a", 0)), fact(2, taken("b", 1)),
		fact(3, taken("a", 1)), fact(3, taken("b", 0)), fact(4, put(at(1, 7, 0))), fact(4, taken("m", 1)), fact(5, taken("m", 1)), fact(6, rootRec("h", 0)),
	}
}

func TestList(t *testing.T) {
	if l, err := snap.List(facts()); !slices.Equal(l, []api.Snap{{Name: "a", N: 3}, {Name: "m", N: 5}, {Name: "z", N: 1}}) || err != api.OK {
		t.Errorf("List: %v, %d", l, err)
	}
	if l, err := snap.List(nil); len(l) > 0 || err != api.OK {
		t.Errorf("List of nothing: %v, %d", l, err)
	}
	if l, err := snap.List([]api.Fact{fact(1, taken("a", 1)), {}}); len(l) > 0 || err != api.ErrTable {
		t.Errorf("List of wrong facts: %v, %d", l, err)
	}
}

func TestAt(t *testing.T) {
	for name, a := range map[string]int{"z": 5, "a": 6, "m": 7} {
		w, err := snap.At(facts(), name)
		if len(w.Objs) != 1 || w.Objs[0].Vals[0].N != a || len(w.Roots) != 1 || err != api.OK {
			t.Errorf("At %s: %v, %d", name, w, err)
		}
		n := map[string]int{"z": 1, "a": 3, "m": 5}[name]
		if want, _ := table.World(facts(), n); !world.Same(w, want) {
			t.Errorf("At %s is not the world of %d", name, n)
		}
	}
	for _, name := range []string{"b", "", "A", "h"} {
		if w, err := snap.At(facts(), name); !world.Same(w, api.World{}) || err != api.ErrSnap {
			t.Errorf("At %q: %v, %d", name, w, err)
		}
	}
	if _, err := snap.At([]api.Fact{{}}, "b"); err != api.ErrTable {
		t.Errorf("At of wrong facts: %d", err)
	}
	wrong := []api.Fact{fact(1, api.Rec{Kind: api.RClass, ID: 3, Class: class()}), fact(1, taken("a", 1))}
	if w, err := snap.At(wrong, "a"); !world.Same(w, api.World{}) || err != api.ErrTable {
		t.Errorf("At of a world that can't be: %v, %d", w, err)
	}
}

func of(roots []api.Root, objs ...api.Obj) api.World {
	return api.World{Schema: api.Schema{Lines: []api.Line{{First: class()}}}, Objs: objs, Roots: roots, Next: 9}
}

func TestDiff(t *testing.T) {
	h := []api.Root{{Name: "h", ID: 1}}
	hk := []api.Root{{Name: "h", ID: 1}, {Name: "k", ID: 2}}
	for i, x := range []struct {
		a, b api.World
		want []api.Diff
	}{
		{of(h, at(1, 5, 0)), of(hk, at(1, 6, 0), at(2, 0, 0)), []api.Diff{{Kind: api.DTurn, ID: 1}, {Kind: api.DCome, ID: 2}, {Kind: api.DCome, Name: "k"}}},
		{of(hk, at(1, 6, 0), at(2, 0, 0)), of(h, at(1, 5, 0)), []api.Diff{{Kind: api.DTurn, ID: 1}, {Kind: api.DGone, ID: 2}, {Kind: api.DGone, Name: "k"}}},
		{of(h, at(1, 5, 0)), of(h, at(1, 5, 0), at(2, 7, 0)), nil}, {of(h, at(1, 5, 2)), of(h, at(1, 5, 0), at(2, 7, 0)), nil},
		{of(hk, at(1, 5, 2), at(2, 7, 0)), of(h, at(1, 5, 2), at(2, 7, 0)), []api.Diff{{Kind: api.DTurn, ID: 1}, {Kind: api.DGone, ID: 2}, {Kind: api.DGone, Name: "k"}}},
		{of(hk, at(1, 0, 0), at(2, 0, 0)), of([]api.Root{{Name: "a", ID: 2}, {Name: "h", ID: 2}, {Name: "k", ID: 1}}, at(1, 0, 0), at(2, 0, 0)), []api.Diff{{Kind: api.DCome, Name: "a"}, {Kind: api.DTurn, Name: "h"}, {Kind: api.DTurn, Name: "k"}}},
		{api.World{Next: 1}, api.World{Next: 5}, nil}, {of(nil, at(1, 1, 0)), of(nil), nil},
		{of([]api.Root{{Name: "x", ID: 3}, {Name: "y", ID: 5}}, at(3, 0, 0), at(5, 0, 0)), of([]api.Root{{Name: "x", ID: 2}, {Name: "y", ID: 7}}, at(2, 0, 0), at(7, 0, 0)), []api.Diff{{Kind: api.DCome, ID: 2}, {Kind: api.DGone, ID: 3}, {Kind: api.DGone, ID: 5}, {Kind: api.DCome, ID: 7}, {Kind: api.DTurn, Name: "x"}, {Kind: api.DTurn, Name: "y"}}},
	} {
		if got, err := snap.Diff(x.a, x.b); !slices.Equal(got, x.want) || err != api.OK {
			t.Errorf("case %d: %v, %d", i, got, err)
		}
	}
	bad := api.World{Next: 1, Schema: api.Schema{Lines: []api.Line{{}}}}
	for i, x := range []struct {
		a, b api.World
		want api.Errno
	}{{api.World{}, bad, api.ErrWorld}, {bad, api.World{}, api.ErrSchema}, {of(h, at(1, 5, 0)), api.World{}, api.ErrWorld}} {
		if got, err := snap.Diff(x.a, x.b); len(got) > 0 || err != x.want {
			t.Errorf("wrong case %d: %v, %d", i, got, err)
		}
	}
}

func TestTheOtherWayRoundWhatComesIsGone(t *testing.T) {
	r := rand.New(rand.NewSource(20))
	some := func() api.World {
		var roots []api.Root
		for _, name := range []string{"a", "b", "c", "d"} {
			if r.Intn(2) == 0 {
				roots = append(roots, api.Root{Name: name, ID: 1 + r.Intn(3)})
			}
		}
		return of(roots, at(1, r.Intn(2), r.Intn(4)), at(2, r.Intn(2), r.Intn(4)), at(3, r.Intn(2), r.Intn(4)))
	}
	other := map[int]int{api.DCome: api.DGone, api.DGone: api.DCome, api.DTurn: api.DTurn}
	for range 500 {
		a, b := some(), some()
		if l, err := snap.Diff(a, a); len(l) > 0 || err != api.OK {
			t.Fatalf("a world and itself: %v, %d", l, err)
		}
		l, _ := snap.Diff(a, b)
		back, _ := snap.Diff(b, a)
		for i := range back {
			back[i].Kind = other[back[i].Kind]
		}
		if !slices.Equal(l, back) {
			t.Fatalf("%v, and back %v", l, back)
		}
	}
}
