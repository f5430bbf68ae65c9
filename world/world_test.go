package world_test

import (
	"math"
	"math/rand"
	"slices"
	"strconv"
	"testing"

	"moraine/api"
	"moraine/obj"
	"moraine/world"
)

func num(n int) api.Val         { return api.Val{Kind: api.Num, N: n} }
func ref(n int) api.Val         { return api.Val{Kind: api.Ref, N: n} }
func weak(n int) api.Val        { return api.Val{Kind: api.Weak, N: n} }
func list(l ...api.Val) api.Val { return api.Val{Kind: api.List, L: l} }

func of(kind int) api.Type { return api.Type{Kind: kind} }

// node is a class of a number, a strong reference, a weak one, and a list of strong ones.
func node() api.Class {
	return api.Class{Name: "node", Fields: []api.Field{{Name: "n", Type: of(api.Num)}, {Name: "next", Type: of(api.Ref)}, {Name: "w", Type: of(api.Weak)}, {Name: "kids", Type: api.Type{Kind: api.List, Of: api.Ref}}}}
}

func schemaOf(changes ...api.Change) api.Schema {
	return api.Schema{Lines: []api.Line{{First: node(), Changes: changes}}}
}

// at is an object of version 0 with that number, references to two others (0: none), and kids.
func at(id, next, to int, kids ...int) api.Obj {
	o := api.Obj{ID: id, Vals: []api.Val{num(id * 10), {}, {}, list()}}
	if next != 0 {
		o.Vals[1] = ref(next)
	}
	if to != 0 {
		o.Vals[2] = weak(to)
	}
	for _, kid := range kids {
		o.Vals[3].L = append(o.Vals[3].L, ref(kid))
	}
	return o
}

// example has 1, which is a root's, refers to 2, and weakly to 3, that is not reached and refers to 1.
func example() api.World {
	return api.World{Schema: schemaOf(), Objs: []api.Obj{at(1, 2, 3), at(2, 0, 1), at(3, 1, 2)}, Roots: []api.Root{{Name: "top", ID: 1}}, Next: 4}
}

// but is the example with something else.
func but(change func(w *api.World)) api.World {
	w := example()
	change(&w)
	return w
}

func TestCheck(t *testing.T) {
	drop := api.Change{Kind: api.ChDrop, Field: "next"}
	for i, w := range []api.World{
		{Next: 1}, {Next: api.MaxID + 1}, example(), but(func(w *api.World) { w.Next = api.MaxID + 1 }), but(func(w *api.World) { w.Roots = nil }), but(func(w *api.World) { w.Objs[0].Vals[2] = weak(99) }),
		but(func(w *api.World) { w.Roots = []api.Root{{Name: "a", ID: 1}, {Name: "a_", ID: 1}, {Name: "b", ID: 3}} }),
		but(func(w *api.World) { w.Schema = schemaOf(drop); w.Objs[0].Vals[1] = ref(99) }),
	} {
		if err := world.Check(w); err != api.OK {
			t.Errorf("right world %d: %d", i, err)
		}
	}
	for i, w := range []api.World{
		{}, {Next: api.MaxID + 2}, {Next: -1}, but(func(w *api.World) { w.Next = 3 }), but(func(w *api.World) { w.Objs[1].ID = 1 }), but(func(w *api.World) { w.Objs[2].ID = 2 }), but(func(w *api.World) { w.Objs[0].ID = 0 }), but(func(w *api.World) { w.Objs[1], w.Objs[2] = w.Objs[2], w.Objs[1] }),
		but(func(w *api.World) { w.Objs[0].Ver = 1 }), but(func(w *api.World) { w.Objs[0].Class = 1 }), but(func(w *api.World) { w.Objs[0].Vals = nil }), but(func(w *api.World) { w.Objs[0].Vals[1] = ref(-1) }), but(func(w *api.World) { w.Objs[2].Vals[1] = ref(4) }), but(func(w *api.World) { w.Objs[2].Vals[3] = list(ref(1), ref(9)) }),
		but(func(w *api.World) { w.Roots[0].Name = "" }), but(func(w *api.World) { w.Roots[0].Name = "Top" }), but(func(w *api.World) { w.Roots[0].ID = 4 }), but(func(w *api.World) { w.Roots[0].ID = 0 }),
		but(func(w *api.World) { w.Roots = []api.Root{{Name: "b", ID: 1}, {Name: "a", ID: 1}} }), but(func(w *api.World) { w.Roots = []api.Root{{Name: "a", ID: 1}, {Name: "a", ID: 1}} }),
	} {
		refused(t, i, w, api.ErrWorld)
	}
	refused(t, -1, but(func(w *api.World) { w.Next = 0; w.Schema.Lines[0].First.Name = "" }), api.ErrSchema)
}

// refused checks that all calls tell what is wrong with a world.
func refused(t *testing.T, i int, w api.World, want api.Errno) {
	t.Helper()
	err := world.Check(w)
	o, getErr := world.Get(w, 1)
	ids, reachErr := world.Reach(w)
	live, liveErr := world.Live(w)
	applied, n, applyErr := world.Apply(w, []api.Rec{{}})
	if err != want || getErr != want || reachErr != want || liveErr != want || applyErr != want {
		t.Errorf("wrong world %d: %d, %d, %d, %d, %d", i, err, getErr, reachErr, liveErr, applyErr)
	}
	if !obj.Same(o, api.Obj{}) || len(ids) > 0 || n != 0 || !world.Same(live, api.World{}) || !world.Same(applied, api.World{}) {
		t.Errorf("wrong world %d: something beside the error", i)
	}
}

func TestSame(t *testing.T) {
	all := []api.World{{}, {Next: 1}, example(), but(func(w *api.World) { w.Next = 5 }), but(func(w *api.World) { w.Roots = nil }), but(func(w *api.World) { w.Roots[0].ID = 2 }), but(func(w *api.World) { w.Objs[1].Vals[0] = num(3) }), but(func(w *api.World) { w.Objs = w.Objs[:2] }), but(func(w *api.World) { w.Schema = schemaOf(api.Change{}) })}
	for i, a := range all {
		for j, b := range all {
			if world.Same(a, b) != (i == j) {
				t.Errorf("Same of %d and %d is %t", i, j, i != j)
			}
		}
	}
	if !world.Same(api.World{Objs: []api.Obj{}, Roots: []api.Root{}}, api.World{}) {
		t.Error("nothing is unlike empty lists")
	}
}

func TestReachGetRootAndLive(t *testing.T) {
	w := example()
	if ids, err := world.Reach(w); !slices.Equal(ids, []int{1, 2}) || err != api.OK {
		t.Errorf("Reach: %v, %d", ids, err)
	}
	if o, err := world.Get(w, 1); !obj.Same(o, at(1, 2, 0)) || err != api.OK {
		t.Errorf("Get of 1: %v, %d", o, err)
	}
	if o, err := world.Get(w, 2); !obj.Same(o, at(2, 0, 1)) || err != api.OK {
		t.Errorf("Get of 2: %v, %d", o, err)
	}
	for _, id := range []int{3, 0, -1, 4, math.MaxInt, math.MinInt} {
		if o, err := world.Get(w, id); !obj.Same(o, api.Obj{}) || err != api.ErrGone {
			t.Errorf("Get of %d: %v, %d", id, o, err)
		}
	}
	want := example()
	want.Objs = []api.Obj{at(1, 2, 0), at(2, 0, 1)}
	if live, err := world.Live(w); !world.Same(live, want) || err != api.OK {
		t.Errorf("Live: %v, %d", live, err)
	}
	roots := api.World{Roots: []api.Root{{Name: "b", ID: 7}, {Name: "", ID: 8}, {Name: "b", ID: 9}}}
	for name, want := range map[string]int{"b": 7, "": 8, "c": -1} {
		if id, ok := world.Root(roots, name); ok != (want > 0) || id != max(want, 0) {
			t.Errorf("Root %q: %d, %t", name, id, ok)
		}
	}
}

func TestAnObjectIsReachedByWhatItIsAtItsNewestVersion(t *testing.T) {
	drop := api.Change{Kind: api.ChDrop, Field: "next"}
	double := api.Change{Kind: api.ChAdd, Name: "b", Type: of(api.Num), Expr: "n*2"}
	w := but(func(w *api.World) { w.Schema = schemaOf(double, drop); w.Objs[0].Vals[3] = list(ref(3)) })
	if ids, _ := world.Reach(w); !slices.Equal(ids, []int{1, 3}) {
		t.Errorf("Reach: %v", ids)
	}
	want := api.Obj{ID: 1, Ver: 2, Vals: []api.Val{num(10), weak(3), list(ref(3)), num(20)}}
	if o, _ := world.Get(w, 1); !obj.Same(o, want) {
		t.Errorf("Get: %v", o)
	}
}

func put(o api.Obj) api.Rec             { return api.Rec{Kind: api.RPut, Obj: o} }
func root(name string, id int) api.Rec  { return api.Rec{Kind: api.RRoot, Name: name, ID: id} }
func snap(name string, id int) api.Rec  { return api.Rec{Kind: api.RSnap, Name: name, ID: id} }
func class(id int, c api.Class) api.Rec { return api.Rec{Kind: api.RClass, ID: id, Class: c} }
func change(id, ver int, ch api.Change) api.Rec {
	return api.Rec{Kind: api.RChange, ID: id, Ver: ver, Change: ch}
}

func TestApply(t *testing.T) {
	double := api.Change{Kind: api.ChAdd, Name: "b", Type: of(api.Num), Expr: "n*2"}
	w, n, err := world.Apply(api.World{Next: 1}, []api.Rec{
		class(0, node()), put(at(5, 0, 0)), root("z", 5), root("a", 5), put(at(2, 5, 0)), put(at(5, 2, 0)), change(0, 1, double), class(1, api.Class{Name: "d"}), put(api.Obj{ID: 3, Class: 1}), root("z", 0), root("nope", 0), snap("s", 1), snap("s", 0), root("a", 2),
	})
	want := api.World{Schema: api.Schema{Lines: []api.Line{{First: node(), Changes: []api.Change{double}}, {First: api.Class{Name: "d"}}}}, Objs: []api.Obj{at(2, 5, 0), {ID: 3, Class: 1}, at(5, 2, 0)}, Roots: []api.Root{{Name: "a", ID: 2}}, Next: 6}
	if !world.Same(w, want) || n != 14 || err != api.OK {
		t.Errorf("Apply: %v, %d, %d", w, n, err)
	}
	same, n, err := world.Apply(example(), nil)
	if !world.Same(same, example()) || n != 0 || err != api.OK {
		t.Errorf("Apply of nothing: %v, %d, %d", same, n, err)
	}
	big, _, err := world.Apply(example(), []api.Rec{put(at(api.MaxID, 0, 0)), root("big", api.MaxID), root("one", 1)})
	if big.Next != api.MaxID+1 || !slices.Equal(big.Roots, []api.Root{{Name: "big", ID: api.MaxID}, {Name: "one", ID: 1}, {Name: "top", ID: 1}}) || err != api.OK {
		t.Errorf("the greatest number: %d, %v, %d", big.Next, big.Roots, err)
	}
}

func TestApplyRefuses(t *testing.T) {
	flip := api.Change{Kind: api.ChIndex, Field: "n"}
	flips := make([]api.Rec, 13)
	for i := range flips {
		flips[i] = change(0, i+1, flip)
	}
	classes := make([]api.Rec, 8)
	for i := range classes {
		classes[i] = class(i+1, api.Class{Name: "c" + strconv.Itoa(i)})
	}
	good := root("x", 1)
	for i, x := range []struct {
		l    []api.Rec
		n    int
		want api.Errno
	}{
		{[]api.Rec{good, {}}, 1, api.ErrWorld}, {[]api.Rec{{Kind: 6}}, 0, api.ErrWorld}, {[]api.Rec{good, good, put(api.Obj{})}, 2, api.ErrWorld}, {[]api.Rec{put(api.Obj{ID: 9, Class: 1})}, 0, api.ErrWorld}, {[]api.Rec{put(api.Obj{ID: 9, Ver: 1, Vals: at(1, 0, 0).Vals})}, 0, api.ErrWorld},
		{[]api.Rec{root("X", 1)}, 0, api.ErrWorld}, {[]api.Rec{root("", 0)}, 0, api.ErrWorld}, {[]api.Rec{root("x", -1)}, 0, api.ErrWorld}, {[]api.Rec{root("x", api.MaxID+1)}, 0, api.ErrWorld},
		{[]api.Rec{snap("X", 1)}, 0, api.ErrWorld}, {[]api.Rec{snap("x", 2)}, 0, api.ErrWorld}, {[]api.Rec{snap("x", -1)}, 0, api.ErrWorld},
		{[]api.Rec{class(0, api.Class{Name: "d"})}, 0, api.ErrWorld}, {[]api.Rec{class(2, api.Class{Name: "d"})}, 0, api.ErrWorld}, {[]api.Rec{class(1, api.Class{})}, 0, api.ErrClass}, {[]api.Rec{class(1, node())}, 0, api.ErrSchema}, {classes, 7, api.ErrSchema},
		{[]api.Rec{change(1, 1, flip)}, 0, api.ErrWorld}, {[]api.Rec{change(-1, 1, flip)}, 0, api.ErrWorld}, {[]api.Rec{change(0, 0, flip)}, 0, api.ErrWorld}, {[]api.Rec{change(0, 2, flip)}, 0, api.ErrWorld}, {[]api.Rec{good, change(0, 1, api.Change{})}, 1, api.ErrChange}, {flips, 12, api.ErrVersion},
		{[]api.Rec{root("x", 77)}, 1, api.ErrWorld}, {[]api.Rec{good, put(at(1, 77, 0))}, 2, api.ErrWorld}, {[]api.Rec{root("x", 77), put(at(77, 0, 0))}, 2, api.OK}, {[]api.Rec{put(at(1, 50, 0)), put(at(50, 0, 0))}, 2, api.OK},
	} {
		w, n, err := world.Apply(example(), x.l)
		if n != x.n || err != x.want || err != api.OK && !world.Same(w, api.World{}) {
			t.Errorf("case %d: %v, %d, %d", i, w, n, err)
		}
	}
}

func TestNothingIsSharedNorWrittenInto(t *testing.T) {
	w := example()
	w.Objs = append(make([]api.Obj, 0, 10), w.Objs...)
	w.Roots = append(make([]api.Root, 0, 10), w.Roots...)
	o := at(9, 0, 0, 1)
	l := []api.Rec{put(o), root("a", 9)}
	live, _ := world.Live(w)
	applied, _, _ := world.Apply(w, l)
	got, _ := world.Get(w, 1)
	got.Vals[3].L = append(got.Vals[3].L, num(1))
	got.Vals[0] = num(99)
	for _, other := range []api.World{live, applied} {
		other.Objs[0].Vals[0] = num(99)
		other.Roots[0].Name = "q"
		other.Schema.Lines[0].First.Fields[0].Name = "q"
	}
	applied.Objs[3].Vals[3].L[0] = num(99)
	if !world.Same(w, example()) || w.Objs[:4][3].ID != 0 || w.Roots[:2][1].Name != "" || !obj.Same(o, at(9, 0, 0, 1)) {
		t.Error("what was handed in has changed")
	}
}

// anyWorld is a right world of some objects.
func anyWorld(r *rand.Rand) api.World {
	size := 1 + r.Intn(8)
	some := func() int { return r.Intn(size + 1) }
	w := api.World{Schema: schemaOf(), Next: size + 1 + r.Intn(3)}
	for id := 1; id <= size; id++ {
		o := at(id, some(), some())
		for range r.Intn(3) {
			o.Vals[3].L = append(o.Vals[3].L, ref(1+r.Intn(size)))
		}
		w.Objs = append(w.Objs, o)
	}
	for _, name := range []string{"a", "b", "c"} {
		if id := some(); id > 0 && r.Intn(2) == 0 {
			w.Roots = append(w.Roots, api.Root{Name: name, ID: id})
		}
	}
	return w
}

// walked are the numbers that are reached, told by going along all references as often as there are objects.
func walked(w api.World) (ids []int) {
	seen := map[int]bool{}
	for _, r := range w.Roots {
		seen[r.ID] = true
	}
	for range w.Objs {
		for _, o := range w.Objs {
			if !seen[o.ID] {
				continue
			}
			for _, id := range obj.Refs(o) {
				seen[id] = true
			}
		}
	}
	for id := range w.Next {
		if seen[id] {
			ids = append(ids, id)
		}
	}
	return ids
}

func TestWhatLiveTellsAnswersAlike(t *testing.T) {
	r := rand.New(rand.NewSource(10))
	for range 2000 {
		w := anyWorld(r)
		live, err := world.Live(w)
		again, liveErr := world.Live(live)
		if err != api.OK || liveErr != api.OK || !world.Same(live, again) || world.Check(live) != api.OK {
			t.Fatalf("Live of %v: %v, %d", w, live, err)
		}
		ids, _ := world.Reach(w)
		other, _ := world.Reach(live)
		if !slices.Equal(ids, walked(w)) || !slices.Equal(ids, other) || len(ids) != len(live.Objs) {
			t.Fatalf("Reach of %v: %v, and %v", w, ids, other)
		}
		for id := range w.Next + 1 {
			a, aErr := world.Get(w, id)
			b, bErr := world.Get(live, id)
			if !obj.Same(a, b) || aErr != bErr {
				t.Fatalf("Get of %d: %v, %v", id, a, b)
			}
		}
	}
}

func TestRecordsOfUnlikeThingsMayBeDoneInAnyTurn(t *testing.T) {
	r := rand.New(rand.NewSource(11))
	for range 500 {
		w := anyWorld(r)
		l := []api.Rec{put(at(20, 1, 0)), put(at(21, 20, 0)), put(at(1, 0, 20)), root("a", 21), root("x", 1), root("c", 0)}
		want, _, err := world.Apply(w, l)
		r.Shuffle(len(l), func(i, j int) { l[i], l[j] = l[j], l[i] })
		got, _, gotErr := world.Apply(w, l)
		if !world.Same(got, want) || err != gotErr {
			t.Fatalf("%v: %d, %v: %d", want, err, got, gotErr)
		}
	}
}

func TestCarriedAlongAheadOrWhenItIsRead(t *testing.T) {
	double := api.Change{Kind: api.ChAdd, Name: "b", Type: of(api.Num), Expr: "n*2"}
	r := rand.New(rand.NewSource(12))
	for range 500 {
		w := anyWorld(r)
		w.Schema = schemaOf(double)
		ahead := w
		ahead.Objs = nil
		for _, o := range w.Objs {
			now, _ := obj.Latest(w.Schema, o)
			ahead.Objs = append(ahead.Objs, now)
		}
		a, _ := world.Live(w)
		b, err := world.Live(ahead)
		if !world.Same(a, b) || err != api.OK {
			t.Fatalf("%v, carried ahead %v", a, b)
		}
	}
}
