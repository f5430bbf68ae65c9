package export_test

import (
	"math/rand"
	"slices"
	"strings"
	"testing"

	"moraine/api"
	"moraine/export"
	"moraine/query"
	"moraine/world"
)

func num(n int) api.Val         { return api.Val{Kind: api.Num, N: n} }
func text(s string) api.Val     { return api.Val{Kind: api.Text, S: s} }
func ref(n int) api.Val         { return api.Val{Kind: api.Ref, N: n} }
func weak(n int) api.Val        { return api.Val{Kind: api.Weak, N: n} }
func list(l ...api.Val) api.Val { return api.Val{Kind: api.List, L: l} }

func field(name string, kind, of int) api.Field {
	return api.Field{Name: name, Type: api.Type{Kind: kind, Of: of}}
}

func of(fields ...api.Field) api.Schema {
	return api.Schema{Lines: []api.Line{{First: api.Class{Name: "node", Fields: fields}}}}
}

func at(id int, vals ...api.Val) api.Obj { return api.Obj{ID: id, Vals: vals} }

func TestTheExample(t *testing.T) {
	w := api.World{Schema: of(field("n", api.Num, 0), field("next", api.Ref, 0)), Objs: []api.Obj{at(5, num(1), ref(9)), at(9, num(2), ref(5))}, Roots: []api.Root{{Name: "top", ID: 9}}, Next: 20}
	want := "class node\n n num\n next ref\nroot top @1\nobject node 2 @2\nobject node 1 @1\n"
	if s, err := export.Text(w); s != want || err != api.OK {
		t.Errorf("Text: %q, %d", s, err)
	}
	back := api.World{Schema: w.Schema, Objs: []api.Obj{at(1, num(2), ref(2)), at(2, num(1), ref(1))}, Roots: []api.Root{{Name: "top", ID: 1}}, Next: 3}
	if got, err := export.Read(want); !world.Same(got, back) || err != api.OK {
		t.Errorf("Read: %v, %d", got, err)
	}
	if !export.Alike(w, back) {
		t.Error("the world is not alike to what is read")
	}
}

// large has all types, a class that changed, objects that are not reached.
func large() api.World {
	s := of(field("n", api.Num, 0), field("t", api.Text, 0), field("r", api.Ref, 0), field("w", api.Weak, 0), field("l", api.List, api.Ref), field("m", api.List, api.Weak))
	s.Lines[0].First.Fields[1].Indexed = true
	s.Lines[0].Changes = []api.Change{{Kind: api.ChRename, Field: "n", Name: "k"}, {Kind: api.ChAdd, Name: "x", Type: api.Type{Kind: api.List, Of: api.Num}}, {Kind: api.ChIndex, Field: "k"}}
	s.Lines = append(s.Lines, api.Line{First: api.Class{Name: "empty"}}, api.Line{First: api.Class{Name: "o", Fields: []api.Field{field("a", api.List, api.Text)}}})
	none := list()
	return api.World{Schema: s, Next: 50, Roots: []api.Root{{Name: "a", ID: 30}, {Name: "b", ID: 10}, {Name: "c", ID: 30}}, Objs: []api.Obj{
		at(10, num(-5), text(`q"\`), api.Val{}, weak(40), list(ref(30), ref(20), api.Val{}, ref(10)), list(weak(20), weak(45))),
		{ID: 20, Class: 2, Vals: []api.Val{list(text("a b"), text(""))}}, {ID: 25, Class: 1}, {ID: 30, Vals: []api.Val{num(7), text(""), ref(31), {}, none, none}},
		{ID: 31, Ver: 3, Vals: []api.Val{num(8), text("z"), ref(32), weak(10), none, none, list(num(4))}}, {ID: 32, Class: 1}, {ID: 40, Vals: []api.Val{num(1), text(""), ref(10), {}, none, none}},
	}}
}

const largeText = "class node\n k num indexed\n t text indexed\n r ref\n w weak\n l list ref\n m list weak\n x list num\nclass empty\nclass o\n a list text\nroot a @1\nroot b @2\nroot c @1\n" +
	"object node 7 \"\" @3 - [] [] []\nobject node -5 \"q\\\"\\\\\" - - [@1 @4 - @2] [~4 -] []\nobject node 8 \"z\" @5 ~2 [] [] [4]\nobject o [\"a b\" \"\"]\nobject empty\n"

func TestText(t *testing.T) {
	if s, err := export.Text(large()); s != largeText || err != api.OK {
		t.Errorf("Text: %q, %d", s, err)
	}
	if s, err := export.Text(api.World{Next: 7}); s != "" || err != api.OK {
		t.Errorf("Text of nothing: %q, %d", s, err)
	}
	for want, w := range map[api.Errno]api.World{api.ErrWorld: {}, api.ErrSchema: {Next: 1, Schema: api.Schema{Lines: []api.Line{{}}}}} {
		if s, err := export.Text(w); s != "" || err != want {
			t.Errorf("Text of a wrong world: %q, %d", s, err)
		}
		if export.Alike(w, w) || export.Alike(w, large()) || export.Alike(large(), w) {
			t.Error("a wrong world is alike")
		}
	}
	w := large()
	export.Text(w)
	if !world.Same(w, large()) {
		t.Error("what was handed in has changed")
	}
}

func TestReadUndoesText(t *testing.T) {
	for _, s := range []string{"", largeText, "class a\n", "class a\n x num\nroot r @1\nobject a 5\n"} {
		w, err := export.Read(s)
		if back, _ := export.Text(w); back != s || err != api.OK {
			t.Errorf("Read(%q): %q, %d", s, back, err)
		}
		if w.Next != strings.Count(s, "object ")+1 || slices.ContainsFunc(w.Schema.Lines, func(l api.Line) bool { return len(l.Changes) > 0 }) {
			t.Errorf("Read(%q): %v", s, w)
		}
	}
	w, _ := export.Read(largeText)
	if !export.Alike(w, large()) || !export.Alike(large(), w) {
		t.Error("what is read is not alike")
	}
	other := large()
	other.Objs[0].Vals[0] = num(-6)
	if export.Alike(other, large()) {
		t.Error("another world is alike")
	}
	other = large()
	other.Next, other.Objs[6].Vals[0] = 99, num(77)
	if !export.Alike(other, large()) {
		t.Error("what is not reached makes a difference")
	}
}

func TestReadRefusesWhatIsNoText(t *testing.T) {
	head := "class a\n x num\n r ref\n"
	for _, s := range []string{
		"\n", "class a", "class a\n\n", "class A\n", "class\n", "class a b\n", "class a \n", " x num\n", "class a\n x\n", "class a\n x list\n", "class a\n x list list\n", "class a\n x nil\n", "class a\n x \n", "class a\n x num index\n", "class a\n x num indexed indexed\n", "class a\n x weak indexed\n", "class a\n  x num\n", "class a\nx num\n",
		"class a\nclass a\n", "class a\n x num\n x num\n", "root r @1\n", "class a\nroot r @1\n", "class a\nobject a\n", "class a\nobject a\nroot r @1\n", "class a\nroot r @1\nobject a\nobject a\n", "class a\nroot r @2\nobject a\nobject a\n", "class a\nroot s @1\nroot r @1\nobject a\n", "class a\nroot r @1\nroot r @1\nobject a\n", "class a\nroot R @1\nobject a\n", "class a\nroot r 1\nobject a\n", "class a\nroot r ~1\nobject a\n", "class a\nroot r @01\nobject a\n",
		"root r @1\nclass a\nobject a\n", head + "root r @1\nobject a\n", head + "root r @1\nobject a 1\n", head + "root r @1\nobject a 1 @2\n", head + "root r @1\nobject a 1 - \n", head + "root r @1\nobject a 1  -\n", head + "root r @1\nobject a  1 -\n", head + "root r @1\nobject a 01 -\n", head + "root r @1\nobject a - 1\n", head + "root r @1\nobject a 1 -", head + "root r @1\nobject b 1 -\n", head + "root r @1\nobject a 1 - 3\n", head + "root r @1\nobject\n", head + "root r @1\nobject \n", head + "root r @1\nobjects a 1 -\n", head + "root r @2\nobject a 1 -\nobject a 2 @1\n", head + "root r @1\nobject a 1 @-1\n", head + "root r @1\nobject a 1,-\n",
		strings.Replace(largeText, "object node -5", "object node  -5", 1), largeText + "x", largeText + "\n", strings.Replace(largeText, "class o\n", "", 1), "class a\r\n", strings.Repeat("class a\n", 9), head + "root r @1\nobject a 1 -\nclass b\n",
	} {
		if w, err := export.Read(s); !world.Same(w, api.World{}) || err != api.ErrExport {
			t.Errorf("Read(%q): %v, %d", s, w, err)
		}
	}
}

func TestAWorldThatIsAlikeAnswersAlike(t *testing.T) {
	r := rand.New(rand.NewSource(23))
	s := of(field("n", api.Num, 0), field("next", api.Ref, 0), field("w", api.Weak, 0), field("l", api.List, api.Ref))
	for range 500 {
		w := api.World{Schema: s, Next: 11}
		some := func() int { return 1 + r.Intn(10) }
		for id := 1; id <= 10; id++ {
			w.Objs = append(w.Objs, at(id, num(r.Intn(3)), ref(some()), weak(some()), list(ref(some()), api.Val{}, ref(some()))))
		}
		w.Roots = []api.Root{{Name: "a", ID: some()}, {Name: "b", ID: some()}}
		text, err := export.Text(w)
		back, readErr := export.Read(text)
		if err != api.OK || readErr != api.OK || !export.Alike(w, back) || world.Check(back) != api.OK {
			t.Fatalf("%q: %d, %d", text, err, readErr)
		}
		for _, q := range []string{"a.n", "b.next.n", "a.l[2].next.n", "a.w.n", "b.l[0].l[2].w.n"} {
			x, xErr := query.Ask(w, q)
			y, yErr := query.Ask(back, q)
			if xErr != yErr || len(x) != len(y) || len(x) > 0 && (x[0].Kind != y[0].Kind || x[0].N != y[0].N) {
				t.Fatalf("%s: %v, %d, and %v, %d", q, x, xErr, y, yErr)
			}
		}
		for _, q := range []string{"all node", "all node where n = 1", "all node where n < 2"} {
			x, _ := query.Ask(w, q)
			y, _ := query.Ask(back, q)
			if len(x) != len(y) {
				t.Fatalf("%s: %v, and %v", q, x, y)
			}
		}
	}
}

func FuzzRead(f *testing.F) {
	f.Add(largeText)
	f.Add("class a\n x num\n r ref\nroot r @1\nobject a 1 @1\n")
	f.Fuzz(func(t *testing.T, s string) {
		w, err := export.Read(s)
		if back, textErr := export.Text(w); err == api.OK && (back != s || textErr != api.OK) {
			t.Errorf("%q is read as %q", s, back)
		}
	})
}
