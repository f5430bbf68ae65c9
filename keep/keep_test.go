package keep_test

import (
	"math/rand"
	"slices"
	"testing"

	"moraine/api"
	"moraine/keep"
	"moraine/rec"
	"moraine/snap"
	"moraine/table"
	"moraine/world"
)

func class() api.Class {
	return api.Class{Name: "c", Fields: []api.Field{{Name: "a", Type: api.Type{Kind: api.Num}}, {Name: "r", Type: api.Type{Kind: api.Ref}}, {Name: "w", Type: api.Type{Kind: api.Weak}}}}
}

// at is an object with a number, and references (0: none).
func at(id, a, r, w int) api.Obj {
	o := api.Obj{ID: id, Vals: []api.Val{{Kind: api.Num, N: a}, {}, {}}}
	if r > 0 {
		o.Vals[1] = api.Val{Kind: api.Ref, N: r}
	}
	if w > 0 {
		o.Vals[2] = api.Val{Kind: api.Weak, N: w}
	}
	return o
}

func put(o api.Obj) api.Rec             { return api.Rec{Kind: api.RPut, Obj: o} }
func taken(name string, id int) api.Rec { return api.Rec{Kind: api.RSnap, Name: name, ID: id} }
func root(name string, id int) api.Rec  { return api.Rec{Kind: api.RRoot, Name: name, ID: id} }
func classRec() api.Rec                 { return api.Rec{Kind: api.RClass, Class: class()} }
func change(ver int, n string) api.Rec {
	return api.Rec{Kind: api.RChange, Ver: ver, Change: api.Change{Kind: api.ChAdd, Name: n, Type: api.Type{Kind: api.Num}, Expr: "a*2"}}
}

// facts are those of commits, from 1 on, each of an epoch of its own.
func facts(commits ...[]api.Rec) (l []api.Fact) {
	for i, recs := range commits {
		for _, r := range recs {
			l = append(l, api.Fact{N: i + 1, Epoch: 10 + i, Rec: r})
		}
	}
	return l
}

func recs(l ...api.Rec) []api.Rec { return l }

// needs checks which facts are needed, by their places; but may tell one of them anew.
func needs(t *testing.T, name string, l []api.Fact, but map[int]api.Obj, places ...int) {
	t.Helper()
	var want []api.Fact
	for _, i := range places {
		f := l[i]
		if o, ok := but[i]; ok {
			f.Rec.Obj = o
		}
		want = append(want, f)
	}
	if got, err := keep.Needed(l); !table.Same(got, want) || err != api.OK {
		t.Errorf("%s: %v, %d, want %v", name, got, err, want)
	}
}

func TestTheExamples(t *testing.T) {
	needs(t, "object 1 anew", facts(recs(classRec(), put(at(1, 5, 0, 0)), root("a", 1)), recs(put(at(1, 6, 0, 0)))), nil, 0, 2, 3)
	needs(t, "with a snapshot", facts(recs(classRec(), put(at(1, 5, 0, 0)), root("a", 1), taken("s", 1)), recs(put(at(1, 6, 0, 0)))), nil, 0, 1, 2, 3, 4)
	needs(t, "root a gone", facts(recs(classRec(), put(at(1, 5, 0, 0)), root("a", 1)), recs(root("a", 0))), nil, 0, 3)
}

func TestEnds(t *testing.T) {
	for i, x := range []struct {
		l    []api.Fact
		want []int
	}{
		{nil, []int{0}}, {facts(recs(root("a", 0))), []int{1}}, {facts(recs(taken("z", 1)), recs(taken("a", 1)), recs(root("a", 0))), []int{1, 2, 3}}, {facts(recs(taken("z", 1)), recs(taken("a", 1), taken("b", 1))), []int{1, 2}}, {facts(recs(taken("z", 1)), recs(taken("z", 0))), []int{2}},
	} {
		if got, err := keep.Ends(x.l); !slices.Equal(got, x.want) || err != api.OK {
			t.Errorf("case %d: %v, %d", i, got, err)
		}
	}
	if got, err := keep.Ends([]api.Fact{{}}); len(got) > 0 || err != api.ErrTable {
		t.Errorf("Ends of wrong facts: %v, %d", got, err)
	}
}

func TestNeeded(t *testing.T) {
	needs(t, "nothing", nil, nil)
	needs(t, "what is not reached", facts(recs(classRec(), put(at(1, 0, 2, 3)), put(at(2, 0, 0, 0)), put(at(3, 0, 0, 0)), root("a", 1), root("b", 3)), recs(root("b", 0))), map[int]api.Obj{1: at(1, 0, 2, 0)}, 0, 1, 2, 4, 6)
	needs(t, "a root that was never there", facts(recs(root("a", 0))), nil)
	needs(t, "a root that is gone once more", facts(recs(root("a", 0)), recs(root("a", 0))), nil, 1)
	needs(t, "a root that comes again", facts(recs(classRec(), put(at(1, 0, 0, 0)), root("a", 1)), recs(root("a", 0)), recs(root("a", 1))), nil, 0, 1, 4)
	needs(t, "a root whose object is not there", facts(recs(classRec(), root("a", 7))), nil, 0, 1)
	needs(t, "snapshots", facts(recs(taken("a", 1), taken("b", 0)), recs(taken("a", 0)), recs(taken("c", 1)), recs(taken("c", 1))), nil, 2, 4)
	needs(t, "roots of a snapshot", facts(recs(classRec(), put(at(1, 0, 0, 0)), root("a", 1), root("b", 0), taken("s", 1)), recs(root("a", 0), root("b", 1)), recs(root("b", 0))), nil, 0, 1, 2, 4, 5, 7)
	carried := api.Obj{ID: 1, Ver: 1, Vals: append(at(1, 5, 0, 0).Vals, api.Val{Kind: api.Num, N: 10})}
	needs(t, "carried along", facts(recs(classRec(), put(at(1, 5, 0, 9)), root("a", 1)), recs(change(1, "x"))), map[int]api.Obj{1: carried}, 0, 1, 2, 3)
	needs(t, "as a snapshot needs it", facts(recs(classRec(), put(at(1, 5, 0, 9)), root("a", 1), taken("s", 1)), recs(change(1, "x"))), nil, 0, 1, 2, 3, 4)
	needs(t, "as the last end, a snapshot's, needs it", facts(recs(classRec(), put(at(1, 5, 0, 9)), root("a", 1)), recs(change(1, "x"), taken("s", 1))), nil, 0, 1, 2, 3, 4)
	needs(t, "a snapshot that went", facts(recs(classRec(), put(at(1, 5, 0, 9)), root("a", 1), taken("s", 1)), recs(change(1, "x"), put(at(2, 0, 0, 0)), taken("s", 0))), map[int]api.Obj{1: carried}, 0, 1, 2, 4, 6)
	needs(t, "what a snapshot alone reaches", facts(recs(classRec(), put(at(1, 5, 2, 9)), put(at(2, 0, 0, 0)), root("a", 1), taken("s", 1)), recs(put(at(2, 1, 0, 0))), recs(put(at(1, 6, 0, 2)))), map[int]api.Obj{6: at(1, 6, 0, 0)}, 0, 1, 2, 3, 4, 6)
}

func TestNeededRefuses(t *testing.T) {
	if l, err := keep.Needed([]api.Fact{{}}); len(l) > 0 || err != api.ErrTable {
		t.Errorf("wrong facts: %v, %d", l, err)
	}
	if l, err := keep.Needed(facts(recs(root("a", 0)), recs(change(1, "x")))); len(l) > 0 || err != api.ErrTable {
		t.Errorf("a world that can't be: %v, %d", l, err)
	}
}

func TestNothingIsShared(t *testing.T) {
	l := facts(recs(classRec(), put(at(1, 5, 0, 0)), root("a", 1), taken("s", 1)), recs(put(at(1, 6, 0, 0))))
	got, _ := keep.Needed(l)
	got[0].Rec.Class.Fields[0].Name, got[1].Rec.Obj.Vals[0].N, got[4].Rec.Obj.Vals[0].N = "q", 99, 99
	if l[0].Rec.Class.Fields[0].Name != "a" || l[1].Rec.Obj.Vals[0].N != 5 || l[4].Rec.Obj.Vals[0].N != 6 {
		t.Error("what was handed in has changed")
	}
}

// lives are what is reached in the worlds of ends, but for their next numbers.
func lives(t *testing.T, l []api.Fact, ends []int) (all []api.World) {
	t.Helper()
	for _, n := range ends {
		w, err := table.World(l, n)
		live, liveErr := world.Live(w)
		if err != api.OK || liveErr != api.OK {
			t.Fatalf("the world of %d: %d, %d", n, err, liveErr)
		}
		live.Next = 0
		all = append(all, live)
	}
	return all
}

// anyFacts are those of random commits that worlds take.
func anyFacts(r *rand.Rand) []api.Fact {
	w := api.World{Next: 1}
	var commits [][]api.Rec
	ver := 0
	for i := range 2 + r.Intn(8) {
		l := anyCommit(r)
		if i == 0 {
			l = append(recs(classRec()), l...)
		} else if r.Intn(3) == 0 {
			l = append(recs(change(ver+1, string(rune('d'+ver)))), l...)
		}
		next, _, err := world.Apply(w, l)
		if err != api.OK {
			l = recs(taken("t", 1))
			if i == 0 {
				l = recs(classRec())
			}
			next, _, _ = world.Apply(w, l)
		}
		w, commits = next, append(commits, l)
		ver = len(w.Schema.Lines[0].Changes)
	}
	return facts(commits...)
}

// anyCommit are records of some objects, roots and snapshots, one at least.
func anyCommit(r *rand.Rand) []api.Rec {
	var l []api.Rec
	for id := 1; id <= 5; id++ {
		if r.Intn(3) == 0 {
			l = append(l, put(at(id, r.Intn(5), r.Intn(6), r.Intn(6))))
		}
	}
	for _, name := range []string{"a", "b"} {
		if r.Intn(3) == 0 {
			l = append(l, root(name, r.Intn(6)))
		}
	}
	for _, name := range []string{"s", "t"} {
		if r.Intn(3) == 0 || name == "t" && len(l) == 0 {
			l = append(l, taken(name, min(1, r.Intn(3))))
		}
	}
	return l
}

// TestWhatIsNeededAnswersAsAllDoes takes random facts away that are not needed.
func TestWhatIsNeededAnswersAsAllDoes(t *testing.T) {
	r := rand.New(rand.NewSource(21))
	for range 1000 {
		all := anyFacts(r)
		needed, err := keep.Needed(all)
		if err != api.OK {
			t.Fatalf("Needed: %d", err)
		}
		ends, _ := keep.Ends(all)
		want := lives(t, all, ends)
		some := slices.Clone(needed)
		for _, f := range all {
			is := slices.ContainsFunc(needed, func(n api.Fact) bool { return n.N == f.N && rec.Key(n.Rec) == rec.Key(f.Rec) })
			if !is && r.Intn(2) == 0 {
				some, _ = table.Put(some, f)
			}
		}
		for _, l := range [][]api.Fact{needed, some} {
			var at []int
			for _, n := range ends {
				at = append(at, min(n, table.Newest(l)))
			}
			if got := lives(t, l, at); !slices.EqualFunc(got, want, world.Same) {
				t.Fatalf("ends %v of %v are %v, want %v", ends, l, got, want)
			}
			a, _ := snap.List(all)
			b, _ := snap.List(l)
			if !slices.Equal(a, b) {
				t.Fatalf("snapshots %v, and of what is needed %v", a, b)
			}
		}
		again, err := keep.Needed(needed)
		gone := func(f api.Fact) bool {
			return f.Rec.ID == 0 && (f.Rec.Kind == api.RRoot || f.Rec.Kind == api.RSnap)
		}
		left := slices.DeleteFunc(slices.Clone(needed), gone)
		if got := slices.DeleteFunc(slices.Clone(again), gone); !table.Same(got, left) || err != api.OK {
			t.Fatalf("needed of %v: %v, %d", left, got, err)
		}
	}
}
