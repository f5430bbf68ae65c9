package obj_test

import (
	"math"
	"slices"
	"strings"
	"testing"

	"moraine/api"
	"moraine/obj"
	"moraine/schema"
	"moraine/val"
)

func num(n int) api.Val         { return api.Val{Kind: api.Num, N: n} }
func ref(n int) api.Val         { return api.Val{Kind: api.Ref, N: n} }
func weak(n int) api.Val        { return api.Val{Kind: api.Weak, N: n} }
func list(l ...api.Val) api.Val { return api.Val{Kind: api.List, L: l} }

func add(name, e string) api.Change {
	return api.Change{Kind: api.ChAdd, Name: name, Type: api.Type{Kind: api.Num}, Expr: e}
}

// example has class c with a, a number, then b, a*2; and class d with references.
func example() api.Schema {
	return api.Schema{Lines: []api.Line{
		{First: api.Class{Name: "c", Fields: []api.Field{{Name: "a", Type: api.Type{Kind: api.Num}}}}, Changes: []api.Change{add("b", "a*2")}},
		{First: api.Class{Name: "d", Fields: []api.Field{
			{Name: "r", Type: api.Type{Kind: api.Ref}}, {Name: "w", Type: api.Type{Kind: api.Weak}}, {Name: "l", Type: api.Type{Kind: api.List, Of: api.Weak}},
		}}},
	}}
}

func of(id, class, ver int, vals ...api.Val) api.Obj {
	return api.Obj{ID: id, Class: class, Ver: ver, Vals: vals}
}

func many(v api.Val, n int) (l []api.Val) {
	for range n {
		l = append(l, v)
	}
	return l
}

// couldBe are objects that could be, couldNot such that could not.
func couldBe() []api.Obj {
	return []api.Obj{
		of(1, 0, 0), of(api.MaxID, 7, 12, many(num(1), 8)...), of(5, 1, 0, ref(1), weak(2), list(weak(3), api.Val{})), of(5, 1, 0, ref(api.MaxID)), of(7, 3, 1, api.Val{}, api.Val{Kind: api.Text, S: "ü"}),
	}
}

func couldNot() []api.Obj {
	return []api.Obj{
		{}, of(0, 0, 0), of(-1, 0, 0), of(api.MaxID+1, 0, 0), of(1, -1, 0), of(1, 8, 0), of(1, 0, -1), of(1, 0, 13), of(1, 0, 0, many(num(1), 9)...),
		of(1, 0, 0, num(api.MaxNum+1)), of(1, 0, 0, ref(-1)), of(1, 0, 0, weak(-20)), of(1, 0, 0, list(ref(3), ref(-1))), of(1, 0, 0, list(list())), of(1, 0, 0, api.Val{Kind: 9}), of(1, 0, 0, api.Val{N: 5}),
	}
}

func TestRight(t *testing.T) {
	s := example()
	for _, o := range []api.Obj{of(1, 0, 0, num(3)), of(api.MaxID, 0, 1, num(3), num(4)), of(9, 1, 0, ref(1), weak(2), list(weak(3))), of(9, 1, 0, api.Val{}, api.Val{}, list())} {
		if !obj.Right(s, o) {
			t.Errorf("%v is not right", o)
		}
		if obj.Right(api.Schema{Lines: append(s.Lines, api.Line{})}, o) {
			t.Errorf("%v is right by a schema that is not", o)
		}
	}
	wrong := append(couldNot(), of(1, 0, 0), of(1, 0, 1, num(3)), of(1, 0, 2, num(3)), of(1, 2, 0, num(3)), of(1, 0, 0, num(3), num(4)), of(1, 1, 0, ref(1), ref(2), list()), of(1, 1, 0, ref(-1), weak(2), list()))
	for _, o := range wrong {
		if obj.Right(s, o) {
			t.Errorf("%v is right", o)
		}
		for i, err := range []api.Errno{errOf(obj.Latest(s, o)), errOfVal(obj.Get(s, o, "a")), errOf(obj.Set(s, o, "a", num(1)))} {
			if err != api.ErrObj {
				t.Errorf("call %d of %v: %d", i, o, err)
			}
		}
	}
}

func errOf(o api.Obj, err api.Errno) api.Errno {
	if !obj.Same(o, api.Obj{}) {
		return -1
	}
	return err
}

func errOfVal(v api.Val, err api.Errno) api.Errno {
	if !val.Same(v, api.Val{}) {
		return -1
	}
	return err
}

func TestWrongSchemas(t *testing.T) {
	bad := api.Schema{Lines: []api.Line{{}}}
	for i, err := range []api.Errno{errOf(obj.Latest(bad, api.Obj{})), errOfVal(obj.Get(bad, api.Obj{}, "")), errOf(obj.Set(bad, api.Obj{}, "", api.Val{}))} {
		if err != api.ErrSchema {
			t.Errorf("call %d: %d", i, err)
		}
	}
}

func TestSame(t *testing.T) {
	all := append(couldBe(), couldNot()[1:]...)
	all = append(all, of(1, 0, 0, num(1)), of(1, 0, 0, num(2)), of(1, 0, 0, num(1), num(1)), of(1, 0, 1))
	for i, a := range all {
		for j, b := range all {
			if obj.Same(a, b) != (i == j) {
				t.Errorf("Same(%v, %v) = %t", a, b, i != j)
			}
		}
	}
	if !obj.Same(of(1, 0, 0), of(1, 0, 0, []api.Val{}...)) {
		t.Error("no values are unlike an empty list")
	}
}

func TestLatestGetAndSet(t *testing.T) {
	s, o := example(), of(1, 0, 0, num(3))
	if got, err := obj.Latest(s, o); !obj.Same(got, of(1, 0, 1, num(3), num(6))) || err != api.OK {
		t.Errorf("Latest: %v, %d", got, err)
	}
	if got, err := obj.Get(s, o, "b"); !val.Same(got, num(6)) || err != api.OK {
		t.Errorf("Get: %v, %d", got, err)
	}
	if got, err := obj.Set(s, o, "b", num(9)); !obj.Same(got, of(1, 0, 1, num(3), num(9))) || err != api.OK {
		t.Errorf("Set: %v, %d", got, err)
	}
	if got, err := obj.Set(s, o, "a", num(9)); !obj.Same(got, of(1, 0, 1, num(9), num(6))) || err != api.OK {
		t.Errorf("Set: %v, %d", got, err)
	}
	newest := of(1, 0, 1, num(3), num(9))
	if got, err := obj.Latest(s, newest); !obj.Same(got, newest) || err != api.OK {
		t.Errorf("Latest of what is newest: %v, %d", got, err)
	}
}

func TestGetAndSetRefuse(t *testing.T) {
	s, o := example(), of(1, 0, 0, num(3))
	for _, name := range []string{"", "c", "A"} {
		if got, err := obj.Get(s, o, name); !val.Same(got, api.Val{}) || err != api.ErrField {
			t.Errorf("Get of %q: %v, %d", name, got, err)
		}
		if got, err := obj.Set(s, o, name, ref(-1)); !obj.Same(got, api.Obj{}) || err != api.ErrField {
			t.Errorf("Set of %q: %v, %d", name, got, err)
		}
	}
	d := of(9, 1, 0, ref(1), weak(2), list(weak(3)))
	for name, l := range map[string][]api.Val{"r": {num(1), ref(0), ref(-1), weak(1), list()}, "w": {ref(1), weak(-1)}, "l": {weak(1), list(ref(1)), list(weak(1), weak(-3)), list(list())}} {
		for _, v := range l {
			if got, err := obj.Set(s, d, name, v); !obj.Same(got, api.Obj{}) || err != api.ErrFit {
				t.Errorf("Set of %s to %v: %v, %d", name, v, got, err)
			}
		}
	}
	for name, v := range map[string]api.Val{"r": {}, "w": {}, "l": list(api.Val{}, weak(7))} {
		if got, err := obj.Set(s, d, name, v); err != api.OK {
			t.Errorf("Set of %s to %v: %v, %d", name, v, got, err)
		} else if back, _ := obj.Get(s, got, name); !val.Same(back, v) {
			t.Errorf("%s is set to %v, and got as %v", name, v, back)
		}
	}
}

func TestNothingIsShared(t *testing.T) {
	s, o, v := example(), of(9, 1, 0, ref(1), weak(2), list(weak(3))), list(weak(5))
	latest, _ := obj.Latest(s, o)
	set, _ := obj.Set(s, o, "l", v)
	got, _ := obj.Get(s, o, "l")
	cleared := obj.Clear(o, []int{2, 3})
	for _, l := range [][]api.Val{latest.Vals[2].L, set.Vals[2].L, got.L, cleared.Vals[2].L} {
		l[0].N = 99
	}
	latest.Vals[0], set.Vals[0], cleared.Vals[0] = num(1), num(1), num(1)
	if !obj.Same(o, of(9, 1, 0, ref(1), weak(2), list(weak(3)))) || !val.Same(v, list(weak(5))) {
		t.Errorf("what was handed in has changed: %v, %v", o, v)
	}
}

func TestRefsAndWeaks(t *testing.T) {
	o := of(0, 99, -4, ref(3), weak(4), list(ref(5), weak(6), ref(5), api.Val{}), num(7), ref(0), list(list(ref(8))), ref(-2))
	if got := obj.Refs(o); !slices.Equal(got, []int{3, 5, 5, -2}) {
		t.Errorf("Refs: %v", got)
	}
	if got := obj.Weaks(o); !slices.Equal(got, []int{4, 6}) {
		t.Errorf("Weaks: %v", got)
	}
}

func TestClear(t *testing.T) {
	o := of(-5, 99, 1, ref(3), weak(3), weak(4), api.Val{Kind: api.Weak, N: 9, S: "x", L: many(num(1), 1)}, list(weak(4), weak(3), ref(4), list(weak(4))), api.Val{Kind: api.Num, L: many(weak(4), 1)}, weak(0), weak(-1))
	want := of(-5, 99, 1, ref(3), weak(3), api.Val{}, api.Val{}, list(api.Val{}, weak(3), ref(4), list(weak(4))), api.Val{Kind: api.Num, L: many(weak(4), 1)}, weak(0), api.Val{})
	if got := obj.Clear(o, []int{3, 0, 3, 77}); !obj.Same(got, want) {
		t.Errorf("Clear: %v", got)
	}
	if got := obj.Clear(o, []int{9, 4, 3, 0, -1}); !obj.Same(got, o) {
		t.Errorf("Clear with all alive: %v", got)
	}
	d := of(9, 1, 0, ref(1), weak(2), list(weak(3), weak(2)))
	cleared := obj.Clear(d, []int{2})
	if !slices.Equal(obj.Weaks(cleared), []int{2, 2}) || !slices.Equal(obj.Refs(cleared), obj.Refs(d)) || !obj.Right(example(), cleared) {
		t.Errorf("Clear: %v", cleared)
	}
}

func TestBytes(t *testing.T) {
	if got, err := obj.Encode(of(7, 1, 2, num(1), ref(3))); got != "\x0e\x02\x04\x04\x02\x02\x06\x06" || err != api.OK {
		t.Errorf("Encode: %x, %d", got, err)
	}
	for _, o := range couldBe() {
		s, err := obj.Encode(o)
		if err != api.OK {
			t.Errorf("Encode of %v: %d", o, err)
		}
		got, to, err := obj.Decode("\x04"+s+"\x00", 1)
		if !obj.Same(got, o) || to != 1+len(s) || err != api.OK {
			t.Errorf("%v comes back as %v, %d, %d", o, got, to, err)
		}
		for short := range len(s) {
			if got, to, err := obj.Decode(s[:short], 0); !obj.Same(got, api.Obj{}) || to != 0 || err != api.ErrObj {
				t.Errorf("the first %d bytes of %v: %v, %d, %d", short, o, got, to, err)
			}
		}
	}
	for _, o := range couldNot() {
		if got, err := obj.Encode(o); got != "" || err != api.ErrObj {
			t.Errorf("Encode of %v: %x, %d", o, got, err)
		}
	}
}

func TestBytesOfNoObject(t *testing.T) {
	for _, s := range []string{
		"", "\x00\x00\x00\x00", "\x01\x00\x00\x00", "\x02\x10\x00\x00", "\x02\x01\x00\x00", "\x02\x00\x1a\x00", "\x02\x00\x01\x00", "\x02\x00\x00\x01", "\x02\x00\x00\x12" + strings.Repeat("\x02\x02", 9),
		"\x02\x00\x00\x02\x06\x01", "\x02\x00\x00\x02\x0a\x02\x08\x01", "\x02\x00\x00\x02\x0c", "\x02\x00\x00\xfe\xff\xff\xff\xff\xff\xff\xff\xff\x01", "\x82\x00\x00\x00\x00",
	} {
		if got, to, err := obj.Decode(s, 0); !obj.Same(got, api.Obj{}) || to != 0 || err != api.ErrObj {
			t.Errorf("Decode(%x): %v, %d, %d", s, got, to, err)
		}
	}
	for _, at := range []int{-1, 4, 5, math.MaxInt, math.MinInt} {
		if got, to, err := obj.Decode("\x02\x00\x00\x00", at); !obj.Same(got, api.Obj{}) || to != 0 || err != api.ErrObj {
			t.Errorf("Decode at %d: %v, %d, %d", at, got, to, err)
		}
	}
}

func TestLatestOfALaterSchemaIsLatestOfWhatWasLatest(t *testing.T) {
	s, o := example(), of(1, 0, 0, num(3))
	for _, ch := range []api.Change{add("x", "b-a"), {Kind: api.ChDrop, Field: "a"}, {Kind: api.ChRename, Field: "b", Name: "a"}, add("y", "a*x")} {
		was, _ := obj.Latest(s, o)
		s, _ = schema.Turn(s, 0, ch)
		once, err := obj.Latest(s, o)
		twice, _ := obj.Latest(s, was)
		if err != api.OK || !obj.Same(once, twice) {
			t.Errorf("at once %v, over a version between %v, %d", once, twice, err)
		}
		again, _ := obj.Latest(s, once)
		if !obj.Same(again, once) || !obj.Right(s, once) {
			t.Errorf("what is newest is another one: %v, %v", again, once)
		}
	}
}
