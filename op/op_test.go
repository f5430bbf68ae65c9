package op_test

import (
	"math"
	"slices"
	"testing"

	"moraine/api"
	"moraine/obj"
	"moraine/op"
	"moraine/rec"
	"moraine/world"
)

func num(n int) api.Val         { return api.Val{Kind: api.Num, N: n} }
func ref(n int) api.Val         { return api.Val{Kind: api.Ref, N: n} }
func weak(n int) api.Val        { return api.Val{Kind: api.Weak, N: n} }
func list(l ...api.Val) api.Val { return api.Val{Kind: api.List, L: l} }

func field(name string, kind, of int) api.Field {
	return api.Field{Name: name, Type: api.Type{Kind: kind, Of: of}}
}

// node is a class of a number, a strong reference, a weak one, and a list of weak ones.
func node() api.Class {
	return api.Class{Name: "node", Fields: []api.Field{field("n", api.Num, 0), field("next", api.Ref, 0), field("w", api.Weak, 0), field("l", api.List, api.Weak)}}
}

func add(name string) api.Change {
	return api.Change{Kind: api.ChAdd, Name: name, Type: api.Type{Kind: api.Num}, Expr: "n*2"}
}

func vals(n, next, w int, l ...int) []api.Val {
	made := []api.Val{num(n), {}, {}, list()}
	if next != 0 {
		made[1] = ref(next)
	}
	if w != 0 {
		made[2] = weak(w)
	}
	for _, id := range l {
		made[3].L = append(made[3].L, weak(id))
	}
	return made
}

func at(id int, vals []api.Val) api.Obj { return api.Obj{ID: id, Vals: vals} }

func makeNew(vals []api.Val) api.Op {
	return api.Op{Kind: api.OpNew, Class: "node", Vals: vals}
}
func set(id int, name string, v api.Val) api.Op {
	return api.Op{Kind: api.OpSet, ID: id, Name: name, Val: v}
}
func root(name string, id int) api.Op { return api.Op{Kind: api.OpRoot, Name: name, ID: id} }
func noRoot(name string) api.Op       { return api.Op{Kind: api.OpNoRoot, Name: name} }
func addClass(c api.Class) api.Op     { return api.Op{Kind: api.OpClass, Def: c} }
func read(id int) api.Op              { return api.Op{Kind: api.OpRead, ID: id} }
func readRoot(name string) api.Op     { return api.Op{Kind: api.OpReadRoot, Name: name} }
func snap(name string) api.Op         { return api.Op{Kind: api.OpSnap, Name: name} }
func noSnap(name string) api.Op       { return api.Op{Kind: api.OpNoSnap, Name: name} }
func turn(class string, ch api.Change) api.Op {
	return api.Op{Kind: api.OpChange, Class: class, Change: ch}
}

func put(o api.Obj) api.Rec                { return api.Rec{Kind: api.RPut, Obj: o} }
func rootRec(name string, id int) api.Rec  { return api.Rec{Kind: api.RRoot, Name: name, ID: id} }
func snapRec(name string, id int) api.Rec  { return api.Rec{Kind: api.RSnap, Name: name, ID: id} }
func classRec(id int, c api.Class) api.Rec { return api.Rec{Kind: api.RClass, ID: id, Class: c} }
func changeRec(id, ver int, ch api.Change) api.Rec {
	return api.Rec{Kind: api.RChange, ID: id, Ver: ver, Change: ch}
}

// example has 1, a root's, refer to 2, and weakly to 3, that is not reached.
func example() api.World {
	return api.World{Schema: api.Schema{Lines: []api.Line{{First: node()}}}, Objs: []api.Obj{at(1, vals(10, 2, 3)), at(2, vals(20, 0, 0)), at(3, vals(30, 1, 0))}, Roots: []api.Root{{Name: "top", ID: 1}}, Next: 5}
}

func rights() []api.Op {
	return []api.Op{
		{Kind: api.OpNew, Class: "c"}, makeNew(slices.Repeat([]api.Val{ref(-20)}, 8)), set(1, "n", api.Val{}), set(-20, "n", num(1)), set(api.MaxID, "n", list(weak(-1))), root("a", 1), root("a", -20), root("a", api.MaxID), noRoot("a"), addClass(node()), addClass(api.Class{Name: "c"}),
		turn("c", add("x")), turn("c", api.Change{Kind: api.ChDrop, Field: "whatever"}), read(1), read(api.MaxID), readRoot("a"), snap("a"), noSnap("a"),
	}
}

func wrongs() []api.Op {
	all := []api.Op{
		{}, {Kind: 11}, {Kind: -1}, {Kind: api.OpNew}, {Kind: api.OpNew, Class: "C"}, makeNew(slices.Repeat([]api.Val{num(1)}, 9)), makeNew([]api.Val{ref(0)}), makeNew([]api.Val{{Kind: 9}}), set(0, "n", num(1)), set(-21, "n", num(1)), set(api.MaxID+1, "n", num(1)), set(1, "N", num(1)), set(1, "", num(1)), set(1, "n", num(api.MaxNum+1)), set(1, "n", ref(-21)), set(math.MinInt, "n", num(1)),
		root("a", 0), root("a", -21), root("a", api.MaxID+1), root("", 1), noRoot(""), noRoot("A"), addClass(api.Class{}), addClass(api.Class{Name: "c", Fields: []api.Field{{}}}), turn("", add("x")), turn("c", api.Change{}), turn("c", api.Change{Kind: api.ChDrop, Field: "9"}), turn("c", api.Change{Kind: api.ChAdd, Name: "a", Type: api.Type{Kind: 1}, Expr: "+"}),
		read(0), read(-1), read(api.MaxID + 1), readRoot(""), snap("A"), noSnap("1"),
	}
	for _, o := range rights() {
		for i := range 7 {
			other := o
			switch i {
			case 0:
				other.ID = 7
			case 1:
				other.Class = "x"
			case 2:
				other.Name = "x"
			case 3:
				other.Val = num(7)
			case 4:
				other.Vals = []api.Val{num(7)}
			case 5:
				other.Def.Fields = []api.Field{field("x", api.Num, 0)}
			case 6:
				other.Change = add("x")
			}
			has := map[int]string{api.OpNew: "14", api.OpSet: "023", api.OpRoot: "02", api.OpNoRoot: "2", api.OpClass: "5", api.OpChange: "16", api.OpRead: "0", api.OpReadRoot: "2", api.OpSnap: "2", api.OpNoSnap: "2"}[o.Kind]
			if !slices.Contains([]byte(has), byte('0'+i)) {
				all = append(all, other)
			}
		}
	}
	return all
}

func TestRight(t *testing.T) {
	for _, o := range rights() {
		if !op.Right(o) {
			t.Errorf("%v is not right", o)
		}
	}
	for _, o := range wrongs() {
		if op.Right(o) {
			t.Errorf("%v is right", o)
		}
		if l, keys, next, err := op.Run(example(), []api.Op{read(99), o}); len(l)+len(keys)+next > 0 || err != api.ErrOp {
			t.Errorf("Run of %v: %v, %v, %d, %d", o, l, keys, next, err)
		}
	}
}

func TestSame(t *testing.T) {
	all := append(rights(), wrongs()[:16]...)
	for i, a := range all {
		for j, b := range all {
			if op.Same(a, b) != (i == j) {
				t.Errorf("Same(%v, %v) = %t", a, b, i != j)
			}
		}
	}
	if !op.Same(api.Op{Vals: []api.Val{}, Def: api.Class{Fields: []api.Field{}}}, api.Op{}) {
		t.Error("nothing is unlike empty lists")
	}
}

func TestTheExample(t *testing.T) {
	c := api.Class{Name: "c", Fields: []api.Field{field("a", api.Num, 0)}}
	w := api.World{Schema: api.Schema{Lines: []api.Line{{First: c}}}, Next: 5}
	l, keys, next, err := op.Run(w, []api.Op{{Kind: api.OpNew, Class: "c", Vals: []api.Val{num(3)}}, root("home", -1)})
	if !sameRecs(l, put(at(5, []api.Val{num(3)})), rootRec("home", 5)) || !slices.Equal(keys, []string{"s"}) || next != 6 || err != api.OK {
		t.Errorf("%v, %v, %d, %d", l, keys, next, err)
	}
}

func sameRecs(l []api.Rec, want ...api.Rec) bool { return slices.EqualFunc(l, want, rec.SameRec) }

func TestRun(t *testing.T) {
	turned := api.Obj{ID: 1, Ver: 1, Vals: append(vals(10, 2, 3), num(99))}
	for i, x := range []struct {
		l    []api.Op
		recs []api.Rec
		keys []string
		next int
	}{
		{nil, nil, nil, 5},
		{[]api.Op{read(2), readRoot("x"), read(1), read(2), readRoot("top")}, nil, []string{"o2", "rx", "o1", "rtop"}, 5},
		{[]api.Op{set(2, "n", num(7))}, []api.Rec{put(at(2, vals(7, 0, 0)))}, []string{"o2", "s"}, 5},
		{[]api.Op{set(1, "n", num(7)), set(1, "n", num(8))}, []api.Rec{put(at(1, vals(8, 2, 3)))}, []string{"o1", "s"}, 5},
		{[]api.Op{set(1, "n", num(7)), set(1, "w", api.Val{}), set(1, "l", list(weak(2)))}, []api.Rec{put(at(1, vals(7, 2, 0, 2)))}, []string{"o1", "s"}, 5},
		{[]api.Op{turn("node", add("m"))}, []api.Rec{changeRec(0, 1, add("m"))}, []string{"s"}, 5},
		{[]api.Op{addClass(node2())}, []api.Rec{classRec(1, node2())}, []string{"s"}, 5},
		{[]api.Op{set(1, "w", api.Val{}), set(2, "next", ref(1))}, []api.Rec{put(at(1, vals(10, 2, 0))), put(at(2, vals(20, 1, 0)))}, []string{"o1", "s", "o2"}, 5},
		{[]api.Op{makeNew(vals(1, -2, -3, 1, -1)), makeNew(vals(2, 1, -2)), makeNew(vals(3, 0, 0)), set(-3, "l", list(weak(-1), weak(2)))}, []api.Rec{put(at(5, vals(1, 6, 7, 1, 5))), put(at(6, vals(2, 1, 6))), put(at(7, vals(3, 0, 0, 5, 2)))}, []string{"s"}, 8},
		{[]api.Op{root("b", -1), makeNew(vals(1, 0, 0)), root("a", 2), root("b", -1)}, []api.Rec{put(at(5, vals(1, 0, 0))), rootRec("a", 2), rootRec("b", 5)}, []string{"s"}, 6},
		{[]api.Op{noRoot("top")}, []api.Rec{rootRec("top", 0)}, []string{"rtop"}, 5},
		{[]api.Op{noRoot("top"), root("top", 2), root("x", 1), noRoot("x")}, []api.Rec{rootRec("top", 2), rootRec("x", 0)}, []string{"rtop", "rx"}, 5},
		{[]api.Op{noRoot("top"), set(1, "n", num(1)), root("a", 1)}, []api.Rec{put(at(1, vals(1, 2, 3))), rootRec("a", 1), rootRec("top", 0)}, []string{"rtop", "o1", "s"}, 5},
		{[]api.Op{snap("z"), snap("a"), noSnap("z"), noSnap("b"), snap("b")}, []api.Rec{snapRec("a", 1), snapRec("b", 1), snapRec("z", 0)}, nil, 5},
		{[]api.Op{addClass(api.Class{Name: "d"}), {Kind: api.OpNew, Class: "d"}, turn("d", add("x")), {Kind: api.OpNew, Class: "d", Vals: nil}}, nil, nil, -1},
		{[]api.Op{addClass(node2()), {Kind: api.OpNew, Class: "d", Vals: []api.Val{num(4)}}, turn("d", add("x")), {Kind: api.OpNew, Class: "d", Vals: []api.Val{num(5), num(6)}}}, []api.Rec{classRec(1, node2()), changeRec(1, 1, add("x")), put(api.Obj{ID: 5, Class: 1, Vals: []api.Val{num(4)}}), put(api.Obj{ID: 6, Class: 1, Ver: 1, Vals: []api.Val{num(5), num(6)}})}, []string{"s"}, 7},
		{[]api.Op{turn("node", add("m")), set(1, "m", num(99)), turn("node", add("k"))}, []api.Rec{changeRec(0, 1, add("m")), changeRec(0, 2, add("k")), put(turned)}, []string{"s", "o1"}, 5},
		{[]api.Op{set(1, "n", num(1)), turn("node", api.Change{Kind: api.ChDrop, Field: "n"}), snap("s"), addClass(node2())}, []api.Rec{classRec(1, node2()), changeRec(0, 1, api.Change{Kind: api.ChDrop, Field: "n"}), put(at(1, vals(1, 2, 3))), snapRec("s", 1)}, []string{"o1", "s"}, 5},
	} {
		l, keys, next, err := op.Run(example(), x.l)
		if x.next < 0 {
			if err != api.ErrChange || len(l)+len(keys)+next > 0 {
				t.Errorf("case %d: %v, %v, %d, %d", i, l, keys, next, err)
			}
			continue
		}
		if !sameRecs(l, x.recs...) || !slices.Equal(keys, x.keys) || next != x.next || err != api.OK {
			t.Errorf("case %d: %v, %v, %d, %d", i, l, keys, next, err)
		}
		if made, _, err := world.Apply(example(), l); err != api.OK || made.Next > next {
			t.Errorf("case %d: Apply: %d, %d", i, made.Next, err)
		}
	}
}

// node2 is a class d of one number, n.
func node2() api.Class {
	return api.Class{Name: "d", Fields: []api.Field{field("n", api.Num, 0)}}
}

func TestRunRefuses(t *testing.T) {
	full := example()
	full.Next = api.MaxID
	last := example()
	last.Next = api.MaxID + 1
	none := api.World{}
	for i, x := range []struct {
		w    api.World
		l    []api.Op
		want api.Errno
	}{
		{none, []api.Op{{}}, api.ErrWorld}, {example(), slices.Repeat([]api.Op{read(1)}, 21), api.ErrOp}, {example(), slices.Repeat([]api.Op{read(1)}, 20), api.OK},
		{example(), []api.Op{root("a", -1)}, api.ErrOp}, {example(), []api.Op{makeNew(vals(1, -2, 0))}, api.ErrOp}, {example(), []api.Op{makeNew(vals(1, 0, -2))}, api.ErrOp}, {example(), []api.Op{makeNew(vals(1, 0, 0, -2))}, api.ErrOp}, {example(), []api.Op{makeNew(vals(1, 1, -2))}, api.ErrOp}, {example(), []api.Op{set(1, "l", list(weak(1), weak(-1)))}, api.ErrOp}, {example(), []api.Op{makeNew(vals(1, 1, 3))}, api.ErrGone}, {example(), []api.Op{makeNew(vals(1, 0, 0)), set(-2, "n", num(1))}, api.ErrOp}, {example(), []api.Op{set(1, "w", weak(-1))}, api.ErrOp}, {example(), []api.Op{read(99), set(1, "next", ref(-1))}, api.ErrOp},
		{full, []api.Op{makeNew(vals(1, 0, 0))}, api.OK}, {full, []api.Op{makeNew(vals(1, 0, 0)), makeNew(vals(1, 0, 0))}, api.ErrOp}, {last, []api.Op{makeNew(vals(1, 0, 0))}, api.ErrOp}, {last, []api.Op{read(1)}, api.OK},
		{example(), []api.Op{{Kind: api.OpNew, Class: "x", Vals: vals(1, 3, 0)}}, api.ErrOp}, {example(), []api.Op{makeNew(vals(1, 3, 0))}, api.ErrGone}, {example(), []api.Op{makeNew(vals(1, 0, 3))}, api.ErrGone}, {example(), []api.Op{makeNew(vals(1, 0, 0, 1, 99))}, api.ErrGone}, {example(), []api.Op{makeNew([]api.Val{weak(3)})}, api.ErrGone}, {example(), []api.Op{makeNew([]api.Val{weak(1)})}, api.ErrFit}, {example(), []api.Op{makeNew(nil)}, api.ErrFit}, {example(), []api.Op{makeNew([]api.Val{num(1), weak(1), {}, list()})}, api.ErrFit},
		{example(), []api.Op{makeNew(vals(1, 5, 0))}, api.ErrGone}, {example(), []api.Op{makeNew(vals(1, 0, 0)), set(5, "n", num(1))}, api.ErrGone}, {example(), []api.Op{makeNew(vals(1, 0, 0)), read(5)}, api.ErrGone}, {example(), []api.Op{makeNew(vals(1, 0, 0)), root("a", 5)}, api.ErrGone},
		{example(), []api.Op{set(3, "n", num(1))}, api.ErrGone}, {example(), []api.Op{set(99, "x", num(1))}, api.ErrGone}, {example(), []api.Op{set(-1, "n", num(1)), makeNew(vals(1, 0, 0))}, api.ErrGone}, {example(), []api.Op{set(1, "x", ref(3))}, api.ErrGone}, {example(), []api.Op{set(1, "x", num(1))}, api.ErrField}, {example(), []api.Op{set(1, "n", ref(1))}, api.ErrFit}, {example(), []api.Op{set(1, "n", api.Val{})}, api.ErrFit},
		{example(), []api.Op{root("a", 3)}, api.ErrGone}, {example(), []api.Op{noRoot("a")}, api.ErrGone}, {example(), []api.Op{noRoot("top"), noRoot("top")}, api.ErrGone}, {example(), []api.Op{read(3)}, api.ErrGone}, {example(), []api.Op{read(4)}, api.ErrGone},
		{example(), []api.Op{addClass(node())}, api.ErrSchema}, {example(), []api.Op{turn("x", add("m"))}, api.ErrOp}, {example(), []api.Op{turn("node", add("n"))}, api.ErrChange}, {example(), append([]api.Op{turn("node", add("m"))}, slices.Repeat([]api.Op{turn("node", api.Change{Kind: api.ChIndex, Field: "n"})}, 12)...), api.ErrVersion},
		{example(), []api.Op{turn("node", api.Change{Kind: api.ChDrop, Field: "n"}), set(1, "n", num(1))}, api.ErrField}, {example(), []api.Op{turn("node", add("m")), makeNew(vals(1, 0, 0))}, api.ErrFit}, {example(), []api.Op{read(1), read(3), noRoot("a"), turn("x", add("m"))}, api.ErrGone},
	} {
		l, keys, next, err := op.Run(x.w, x.l)
		if err != x.want || err != api.OK && len(l)+len(keys)+next > 0 {
			t.Errorf("case %d: %v, %v, %d, %d, want %d", i, l, keys, next, err, x.want)
		}
	}
}

func TestNothingIsSharedNorWrittenInto(t *testing.T) {
	w := example()
	w.Objs = append(make([]api.Obj, 0, 9), w.Objs...)
	w.Roots = append(make([]api.Root, 0, 9), w.Roots...)
	v := list(weak(1), weak(-1))
	l := []api.Op{makeNew([]api.Val{num(1), {}, {}, v}), set(1, "l", v), addClass(node2()), root("a", -1)}
	recs, _, _, err := op.Run(w, l)
	if err != api.OK || len(recs) != 4 {
		t.Fatalf("Run: %v, %d", recs, err)
	}
	recs[0].Class.Fields[0].Name = "q"
	recs[1].Obj.Vals[3].L[0] = num(9)
	recs[2].Obj.Vals[0] = num(9)
	if !world.Same(w, example()) || v.L[1].N != -1 || v.L[0].N != 1 || w.Objs[:4][3].ID != 0 || l[2].Def.Fields[0].Name != "n" || recs[2].Obj.Vals[3].L[0].N != 1 {
		t.Error("what was handed in has changed, or is shared")
	}
}

func TestOperationsOfUnlikeKeysMayBeDoneInAnyTurn(t *testing.T) {
	l := []api.Op{set(1, "n", num(1)), set(2, "n", num(2)), root("a", 2), noRoot("top"), snap("s"), addClass(node2()), readRoot("z")}
	want, _, _, _ := op.Run(example(), l)
	after, _, err := world.Apply(example(), want)
	if err != api.OK {
		t.Fatalf("Apply: %d", err)
	}
	for turn := range len(l) {
		recs, _, _, err := op.Run(example(), append(slices.Clone(l[turn:]), l[:turn]...))
		got, _, _ := world.Apply(example(), recs)
		if err != api.OK || !world.Same(got, after) {
			t.Errorf("from %d on: %d", turn, err)
		}
	}
	for id, n := range map[int]int{1: 1, 2: 2} {
		v, _ := obj.Get(after.Schema, after.Objs[id-1], "n")
		if v.N != n {
			t.Errorf("object %d has %d", id, v.N)
		}
	}
}
