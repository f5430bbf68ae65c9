package query_test

import (
	"math"
	"math/rand"
	"slices"
	"strings"
	"testing"

	"moraine/api"
	"moraine/query"
	"moraine/val"
	"moraine/world"
)

func num(n int) api.Val         { return api.Val{Kind: api.Num, N: n} }
func text(s string) api.Val     { return api.Val{Kind: api.Text, S: s} }
func ref(n int) api.Val         { return api.Val{Kind: api.Ref, N: n} }
func weak(n int) api.Val        { return api.Val{Kind: api.Weak, N: n} }
func list(l ...api.Val) api.Val { return api.Val{Kind: api.List, L: l} }

func path(root string, steps ...api.Step) api.Query {
	return api.Query{Kind: api.QPath, Root: root, Steps: steps}
}

func find(class, field, op string, v api.Val) api.Query {
	return api.Query{Kind: api.QFind, Class: class, Field: field, Op: op, Val: v}
}

func field(name string) api.Step { return api.Step{Field: name} }
func place(at int) api.Step      { return api.Step{At: at} }

func same(a, b api.Query) bool {
	return a.Kind == b.Kind && a.Root == b.Root && slices.Equal(a.Steps, b.Steps) && a.Class == b.Class && a.Field == b.Field && a.Op == b.Op && val.Same(a.Val, b.Val)
}

func TestParseAndPrint(t *testing.T) {
	for s, want := range map[string]api.Query{
		"top": path("top"), "all": path("all"), "all.x": path("all", field("x")), "top.kids[1].name": path("top", field("kids"), place(1), field("name")), "a[0][999]": path("a", place(0), place(999)), "a" + strings.Repeat(".b", 12): path("a", slices.Repeat([]api.Step{field("b")}, 12)...),
		"all node": find("node", "", "", api.Val{}), "all where": find("where", "", "", api.Val{}), "all node where n = 3": find("node", "n", "=", num(3)), "all where where where < -5": find("where", "where", "<", num(-5)), `all a where b > "x \"y"`: find("a", "b", ">", text(`x "y`)),
		"all a where b = -": find("a", "b", "=", api.Val{}), "all a where b = @7": find("a", "b", "=", ref(7)), "all a where b < ~100000": find("a", "b", "<", weak(api.MaxID)), `all a where b = ""`: find("a", "b", "=", text("")),
	} {
		if q, err := query.Parse(s); !same(q, want) || err != api.OK {
			t.Errorf("Parse(%s): %v, %d", s, q, err)
		}
		if got, err := query.Print(want); got != s || err != api.OK {
			t.Errorf("Print of %s: %s, %d", s, got, err)
		}
	}
}

func TestParseRefuses(t *testing.T) {
	for _, s := range []string{
		"", " top", "top ", "Top", "9", ".a", "[0]", "top.", "top..a", "top[", "top[]", "top[a]", "top[01]", "top[-1]", "top[1000]", "top[1", "top[99999999999999999999]", "top[1]a", "top.A", "top." + strings.Repeat("a", 21), strings.Repeat("a", 21), "a" + strings.Repeat(".b", 13),
		"all ", "all  node", "all node ", "all Node", "all node where", "all node where ", "all node where n", "all node where n =", "all node where n = ", "all node where n 3", "all node where n ! 3", "all node where n <= 3", "all node where n <> 3", "all node where n  = 3", "all node where n = 3 ", "all node where n = 03", "all node where n = - ", "all node where n = []",
		"all node where n = [1]", "all node where n = @-1", "all node where n = ~-1", "all node where n = @0", "all node where n = 1000000000000001", `all node where n = "`, "all node n = 3", "all node where n = 3 and m = 4", "all node where 9 = 3", "top\n",
	} {
		if q, err := query.Parse(s); !same(q, api.Query{}) || err != api.ErrQuery {
			t.Errorf("Parse(%q): %v, %d", s, q, err)
		}
		if l, err := query.Ask(api.World{}, s); len(l) > 0 || err != api.ErrQuery {
			t.Errorf("Ask(%q): %v, %d", s, l, err)
		}
	}
}

func wrongs() []api.Query {
	all := []api.Query{
		{}, {Kind: 3, Root: "a"}, {Kind: -1}, path(""), path("A"), path("a", api.Step{Field: "b", At: 1}), path("a", api.Step{Field: "B"}), path("a", place(-1)), path("a", place(1000)), path("a", place(math.MinInt)), path("a", slices.Repeat([]api.Step{field("b")}, 13)...),
		find("", "", "", api.Val{}), find("A", "", "", api.Val{}), find("a", "", "=", api.Val{}), find("a", "", "", num(0)), find("a", "b", "", num(1)), find("a", "b", "<=", num(1)), find("a", "B", "=", num(1)), find("a", "b", "=", list()), find("a", "b", "=", list(num(1))), find("a", "b", "=", ref(-1)), find("a", "b", "=", weak(-20)), find("a", "b", "=", ref(0)), find("a", "b", "=", num(api.MaxNum+1)), find("a", "b", "=", api.Val{N: 1}),
	}
	for _, q := range []api.Query{path("a", field("b")), find("a", "b", "=", num(1)), find("a", "", "", api.Val{})} {
		for i := range 6 {
			other := q
			switch i {
			case 0:
				other.Root += "a"
			case 1:
				other.Class += "a"
			case 2:
				other.Field, other.Op = "b", "="
			case 3:
				other.Op = "="
			case 4:
				other.Val = text("x")
			case 5:
				other.Steps = []api.Step{field("x")}
			}
			path := q.Kind == api.QPath && (i == 0 || i == 5)
			find := q.Kind == api.QFind && (i == 1 || i == 2 || q.Field != "" && (i == 3 || i == 4))
			if !path && !find {
				all = append(all, other)
			}
		}
	}
	return all
}

func TestQueriesThatAreNotRight(t *testing.T) {
	if len(wrongs()) < 34 {
		t.Errorf("only %d queries", len(wrongs()))
	}
	for i, q := range wrongs() {
		if s, err := query.Print(q); s != "" || err != api.ErrQuery {
			t.Errorf("Print of wrong query %d: %s, %d", i, s, err)
		}
		if l, err := query.Run(example(), q); len(l) > 0 || err != api.ErrQuery {
			t.Errorf("Run of wrong query %d: %v, %d", i, l, err)
		}
		if l, err := query.Run(api.World{}, q); len(l) > 0 || err != api.ErrWorld {
			t.Errorf("Run of wrong query %d in a wrong world: %v, %d", i, l, err)
		}
	}
}

func schema() api.Schema {
	f := func(name string, kind, of int) api.Field {
		return api.Field{Name: name, Type: api.Type{Kind: kind, Of: of}}
	}
	node := api.Class{Name: "node", Fields: []api.Field{f("n", api.Num, 0), f("name", api.Text, 0), f("next", api.Ref, 0), f("w", api.Weak, 0), f("kids", api.List, api.Ref)}}
	node.Fields[0].Indexed = true
	return api.Schema{Lines: []api.Line{{First: api.Class{Name: "empty"}}, {First: node, Changes: []api.Change{{Kind: api.ChAdd, Name: "m", Type: api.Type{Kind: api.Num}, Expr: "n * 2"}, {Kind: api.ChRename, Field: "name", Name: "title"}}}}}
}

// at is a node, of version 0.
func at(id, n int, name string, next, w int, kids ...int) api.Obj {
	o := api.Obj{ID: id, Class: 1, Vals: []api.Val{num(n), text(name), {}, {}, list()}}
	if next > 0 {
		o.Vals[2] = ref(next)
	}
	if w > 0 {
		o.Vals[3] = weak(w)
	}
	for _, kid := range kids {
		o.Vals[4].L = append(o.Vals[4].L, ref(kid))
	}
	return o
}

// example has objects 2, 4, 6, 8 reached, and 10 that is not.
func example() api.World {
	return api.World{Schema: schema(), Objs: []api.Obj{at(2, 1, "b", 4, 10, 6, 8), at(4, 3, "a", 2, 6), at(6, 3, "c", 0, 0), {ID: 8}, at(10, 9, "z", 2, 2)}, Roots: []api.Root{{Name: "deep", ID: 4}, {Name: "top", ID: 2}}, Next: 11}
}

func TestPaths(t *testing.T) {
	for s, want := range map[string]api.Val{
		"top": ref(2), "deep": ref(4), "top.n": num(1), "top.title": text("b"), "top.m": num(2), "top.next": ref(4), "top.next.next.next.n": num(3), "top.w": {}, "deep.w": weak(6), "deep.w.title": text("c"), "top.kids": list(ref(6), ref(8)), "top.kids[0]": ref(6), "top.kids[0].n": num(3), "top.kids[1]": ref(8), "deep.w.next": {}, "deep.kids": list(),
	} {
		if l, err := query.Ask(example(), s); len(l) != 1 || !val.Same(l[0], want) || err != api.OK {
			t.Errorf("%s: %v, %d", s, l, err)
		}
	}
	for s, want := range map[string]api.Errno{
		"nope": api.ErrNone, "top.w.n": api.ErrNone, "top.n.n": api.ErrNone, "top.kids.n": api.ErrNone, "deep.w.next.n": api.ErrNone, "top.kids[2]": api.ErrNone, "deep.kids[0]": api.ErrNone, "top.title.n": api.ErrNone,
		"top.name": api.ErrField, "top.x": api.ErrField, "top.kids[1].n": api.ErrField, "top[0]": api.ErrFit, "top.n[0]": api.ErrFit, "top.next[0]": api.ErrFit, "top.w[0]": api.ErrFit,
	} {
		if l, err := query.Ask(example(), s); len(l) > 0 || err != want {
			t.Errorf("%s: %v, %d, want %d", s, l, err, want)
		}
	}
}

func TestFinds(t *testing.T) {
	for s, want := range map[string][]int{
		"all node": {2, 4, 6}, "all empty": {8}, "all node where n = 3": {4, 6}, "all node where n < 3": {2}, "all node where n > 1": {4, 6}, "all node where n > 3": nil, "all node where n = 9": nil, "all node where m = 6": {4, 6}, "all node where m < 1000000000000000": {2, 4, 6},
		`all node where title = "a"`: {4}, `all node where title > "a"`: {2, 6}, `all node where title < "c"`: {2, 4}, `all node where title > ""`: {2, 4, 6}, "all node where next = @4": {2}, "all node where next = -": {6}, "all node where next < @4": {4}, "all node where next > @1": {2, 4}, "all node where next > -": nil, "all node where next < -": nil,
		"all node where w = -": {2, 6}, "all node where w = ~6": {4}, "all node where w = ~10": nil, "all node where w > ~1": {4}, "all node where next = @99": nil,
	} {
		l, err := query.Ask(example(), s)
		var got []int
		for _, v := range l {
			got = append(got, v.N)
			if v.Kind != api.Ref {
				t.Errorf("%s: %v", s, v)
			}
		}
		if !slices.Equal(got, want) || err != api.OK {
			t.Errorf("%s: %v, %d, want %v", s, got, err, want)
		}
	}
	for s, want := range map[string]api.Errno{
		"all nope": api.ErrClass, "all nope where n = 3": api.ErrClass, "all node where x = 3": api.ErrField, "all node where name = 3": api.ErrField, "all empty where n = 3": api.ErrField, "all node where n = @3": api.ErrFit, `all node where n = "3"`: api.ErrFit, "all node where n = -": api.ErrFit, "all node where next = ~4": api.ErrFit, "all node where kids = 3": api.ErrFit, "all node where kids = -": api.ErrFit, "all node where title = -": api.ErrFit,
	} {
		if l, err := query.Ask(example(), s); len(l) > 0 || err != want {
			t.Errorf("%s: %v, %d, want %d", s, l, err, want)
		}
	}
}

func TestNothingIsShared(t *testing.T) {
	w := example()
	l, _ := query.Ask(w, "top.kids")
	l[0].L[0].N = 99
	query.Ask(w, "all empty")
	if !world.Same(w, example()) {
		t.Error("what was handed in has changed")
	}
	q := find("node", "n", "=", num(3))
	query.Run(w, q)
	if !same(q, find("node", "n", "=", num(3))) {
		t.Error("the query has changed")
	}
}

func TestFindsAreThoseThatAPlainLoopFinds(t *testing.T) {
	r := rand.New(rand.NewSource(16))
	for range 300 {
		w := api.World{Schema: schema(), Next: 30}
		for id := 1; id <= 12; id++ {
			w.Objs = append(w.Objs, at(id, r.Intn(4), string(rune('a'+r.Intn(3))), r.Intn(13), r.Intn(13), 1+r.Intn(12)))
		}
		w.Roots = []api.Root{{Name: "a", ID: 1 + r.Intn(12)}}
		live, _ := world.Live(w)
		for _, q := range []api.Query{find("node", "n", "<", num(r.Intn(4))), find("node", "n", ">", num(r.Intn(4))), find("node", "title", "=", text("b")), find("node", "next", ">", ref(1+r.Intn(12))), find("node", "w", "<", weak(1+r.Intn(12))), find("node", "w", "=", api.Val{})} {
			at := map[string]int{"n": 0, "title": 1, "next": 2, "w": 3}[q.Field]
			var want []int
			for _, o := range live.Objs {
				c := val.Compare(o.Vals[at], q.Val)
				if c == map[string]int{"=": 0, "<": -1, ">": 1}[q.Op] && o.Vals[at].Kind == q.Val.Kind {
					want = append(want, o.ID)
				}
			}
			for _, asked := range []api.World{w, live} {
				var got []int
				l, err := query.Run(asked, q)
				for _, v := range l {
					got = append(got, v.N)
				}
				if !slices.Equal(got, want) || err != api.OK {
					t.Fatalf("%v: %v, %d, want %v", q, got, err, want)
				}
			}
		}
	}
}
