package schema_test

import (
	"math"
	"slices"
	"strconv"
	"testing"

	"moraine/api"
	"moraine/class"
	"moraine/schema"
	"moraine/val"
)

func made(name string, fields ...string) api.Class {
	c := api.Class{Name: name}
	for _, f := range fields {
		c.Fields = append(c.Fields, api.Field{Name: f, Type: api.Type{Kind: api.Num}})
	}
	return c
}

func add(name, e string) api.Change {
	return api.Change{Kind: api.ChAdd, Name: name, Type: api.Type{Kind: api.Num}, Expr: e}
}

func line(c api.Class, changes ...api.Change) api.Line { return api.Line{First: c, Changes: changes} }

func of(lines ...api.Line) api.Schema { return api.Schema{Lines: lines} }

// flips are so many changes of field a, indexed and not.
func flips(n int) (l []api.Change) {
	for range n {
		l = append(l, api.Change{Kind: api.ChIndex, Field: "a"})
	}
	return l
}

// classes are so many lines of unlike names.
func classes(n int) (l []api.Line) {
	for i := range n {
		l = append(l, line(made("c"+strconv.Itoa(i), "a")))
	}
	return l
}

// example is class d of two changes behind class c without any.
func example() api.Schema {
	return of(line(made("c", "a")), line(made("d", "a"), add("b", "a*2"), api.Change{Kind: api.ChDrop, Field: "a"}))
}

func nums(l ...int) (vals []api.Val) {
	for _, n := range l {
		vals = append(vals, api.Val{Kind: api.Num, N: n})
	}
	return vals
}

func TestCheck(t *testing.T) {
	for i, x := range []struct {
		s    api.Schema
		at   int
		want api.Errno
	}{
		{of(), 0, api.OK}, {example(), 0, api.OK}, {of(classes(8)...), 0, api.OK}, {of(line(made("c", "a"), flips(12)...)), 0, api.OK},
		{of(classes(9)...), 8, api.ErrSchema}, {of(append([]api.Line{line(made("C"))}, classes(8)...)...), 8, api.ErrSchema}, {of(line(made("c", "a"), flips(13)...)), 0, api.ErrSchema},
		{of(line(api.Class{})), 0, api.ErrSchema}, {of(line(made("c")), line(made("d")), line(made("c"))), 2, api.ErrSchema}, {of(line(made("c")), line(made("d", "a", "a"))), 1, api.ErrSchema},
		{of(line(made("c", "a"), add("a", ""))), 0, api.ErrSchema}, {of(line(made("c")), line(made("d", "a"), add("b", ""), add("b", ""))), 1, api.ErrSchema},
		{of(line(made("c", "a"), add("b", "a"), api.Change{Kind: api.ChDrop, Field: "a"}, add("d", "a"))), 0, api.ErrSchema},
	} {
		at, err := schema.Check(x.s)
		if at != x.at || err != x.want {
			t.Errorf("case %d: %d, %d", i, at, err)
		}
		if err == api.OK {
			continue
		}
		_, lastErr := schema.Last(x.s, -1)
		_, atErr := schema.At(x.s, 0, 0)
		added, addErr := schema.Add(x.s, api.Class{})
		turned, turnErr := schema.Turn(x.s, -1, api.Change{})
		carried, carryErr := schema.Carry(x.s, -1, 0, 0, nil)
		if lastErr != err || atErr != err || addErr != err || turnErr != err || carryErr != err || len(added.Lines)+len(turned.Lines)+len(carried) > 0 {
			t.Errorf("case %d: %d, %d, %d, %d, %d", i, lastErr, atErr, addErr, turnErr, carryErr)
		}
	}
}

func TestSame(t *testing.T) {
	all := []api.Schema{of(), example(), of(classes(2)...), of(classes(3)...), of(line(made("c", "a"), flips(1)...)), of(line(made("c", "a"), flips(2)...)), of(line(api.Class{}, api.Change{Kind: 99})), of(line(api.Class{}, api.Change{}))}
	for i, a := range all {
		for j, b := range all {
			if schema.Same(a, b) != (i == j) {
				t.Errorf("Same of %d and %d is %t", i, j, i != j)
			}
		}
	}
	if !schema.Same(api.Schema{Lines: []api.Line{}}, api.Schema{}) || !schema.Same(of(line(made("c"))), of(line(made("c"), []api.Change{}...))) {
		t.Error("nothing is unlike an empty list")
	}
}

func TestFind(t *testing.T) {
	s := of(line(made("c")), line(made("d")), line(made("d")), line(made("")))
	for name, want := range map[string]int{"c": 0, "d": 1, "": 3, "e": -1} {
		at, ok := schema.Find(s, name)
		if ok != (want >= 0) || at != max(want, 0) {
			t.Errorf("Find %q: %d, %t", name, at, ok)
		}
	}
}

func TestLastAndAt(t *testing.T) {
	s := example()
	for class, want := range map[int]int{0: 0, 1: 2} {
		if last, err := schema.Last(s, class); last != want || err != api.OK {
			t.Errorf("Last of %d: %d, %d", class, last, err)
		}
	}
	for _, class := range []int{-1, 2, math.MaxInt, math.MinInt} {
		last, err := schema.Last(s, class)
		c, atErr := schema.At(s, class, -1)
		if last != 0 || err != api.ErrArg || atErr != api.ErrArg || c.Name != "" {
			t.Errorf("class %d: %d, %d, %d", class, last, err, atErr)
		}
	}
	for ver, want := range []api.Class{made("d", "a"), made("d", "a", "b"), made("d", "b")} {
		if c, err := schema.At(s, 1, ver); !class.Same(c, want) || err != api.OK {
			t.Errorf("version %d: %v, %d", ver, c, err)
		}
	}
	for _, ver := range []int{-1, 3, math.MaxInt, math.MinInt} {
		if c, err := schema.At(s, 1, ver); !class.Same(c, api.Class{}) || err != api.ErrVersion {
			t.Errorf("version %d: %v, %d", ver, c, err)
		}
	}
	c, _ := schema.At(s, 1, 0)
	c.Fields[0].Name = "zz"
	if !schema.Same(s, example()) {
		t.Error("At answers what it was handed")
	}
}

func TestAdd(t *testing.T) {
	s, err := schema.Add(example(), made("e", "x"))
	if err != api.OK || !schema.Same(s, of(append(example().Lines, line(made("e", "x")))...)) {
		t.Errorf("Add: %v, %d", s, err)
	}
	for i, x := range []struct {
		s    api.Schema
		c    api.Class
		want api.Errno
	}{
		{example(), made(""), api.ErrClass}, {example(), made("c", "a", "a"), api.ErrClass}, {example(), made("d"), api.ErrSchema}, {of(classes(8)...), made("e"), api.ErrSchema}, {of(classes(8)...), made(""), api.ErrClass},
		{of(classes(7)...), made("e"), api.OK}, {of(), made("e"), api.OK},
	} {
		if s, err := schema.Add(x.s, x.c); err != x.want || err != api.OK && len(s.Lines) > 0 {
			t.Errorf("case %d: %v, %d", i, s, err)
		}
	}
}

func TestTurn(t *testing.T) {
	s, err := schema.Turn(example(), 1, add("x", "b+1"))
	want := example()
	want.Lines[1].Changes = append(want.Lines[1].Changes, add("x", "b+1"))
	if !schema.Same(s, want) || err != api.OK {
		t.Errorf("Turn: %v, %d", s, err)
	}
	for i, x := range []struct {
		s     api.Schema
		class int
		ch    api.Change
		want  api.Errno
	}{
		{example(), -1, add("x", ""), api.ErrArg}, {example(), 2, add("x", ""), api.ErrArg}, {example(), 1, add("b", ""), api.ErrChange}, {example(), 1, add("x", "a"), api.ErrChange}, {example(), 0, api.Change{}, api.ErrChange},
		{of(line(made("c", "a"), flips(12)...)), 0, api.Change{}, api.ErrVersion}, {of(line(made("c", "a"), flips(11)...)), 0, flips(1)[0], api.OK}, {of(), 0, add("x", ""), api.ErrArg},
	} {
		if s, err := schema.Turn(x.s, x.class, x.ch); err != x.want || err != api.OK && len(s.Lines) > 0 {
			t.Errorf("case %d: %v, %d", i, s, err)
		}
	}
}

func TestNothingIsSharedNorWrittenInto(t *testing.T) {
	changes := make([]api.Change, 1, 5)
	changes[0] = add("b", "a*2")
	s := api.Schema{Lines: append(make([]api.Line, 0, 4), line(made("c", "a"), changes...))}
	s.Lines[0].Changes = changes
	other := made("d", "x")
	turned, _ := schema.Turn(s, 0, add("z", ""))
	added, _ := schema.Add(s, other)
	turned.Lines[0].First.Fields[0].Name, turned.Lines[0].Changes[0].Name = "q", "q"
	added.Lines[0].Changes[0].Name, added.Lines[1].First.Fields[0].Name = "q", "q"
	if changes[0].Name != "b" || changes[:2][1].Kind != 0 || s.Lines[0].First.Fields[0].Name != "a" || s.Lines[:2][1].First.Name != "" || other.Fields[0].Name != "x" {
		t.Error("what was handed in has changed")
	}
}

func TestCarry(t *testing.T) {
	s := example()
	for i, x := range []struct {
		class, from, to int
		vals, want      []api.Val
		err             api.Errno
	}{
		{1, 0, 1, nums(3), nums(3, 6), api.OK}, {1, 0, 2, nums(3), nums(6), api.OK}, {1, 1, 2, nums(3, 9), nums(9), api.OK}, {1, 0, 0, nums(3), nums(3), api.OK}, {1, 2, 2, nums(7), nums(7), api.OK}, {0, 0, 0, nums(1), nums(1), api.OK},
		{-1, 0, 0, nums(1), nil, api.ErrArg}, {2, 9, 0, nums(1), nil, api.ErrArg}, {1, -1, 0, nums(1), nil, api.ErrVersion}, {1, 0, 3, nums(1), nil, api.ErrVersion}, {1, 2, 1, nums(1), nil, api.ErrVersion}, {1, 3, 3, nil, nil, api.ErrVersion},
		{1, math.MinInt, math.MaxInt, nil, nil, api.ErrVersion}, {1, 0, 2, nums(), nil, api.ErrFit}, {1, 1, 2, nums(1), nil, api.ErrFit}, {1, 0, 1, []api.Val{{}}, nil, api.ErrFit}, {1, 2, 2, nums(1, 2), nil, api.ErrFit},
	} {
		got, err := schema.Carry(s, x.class, x.from, x.to, x.vals)
		if err != x.err || !slices.EqualFunc(got, x.want, val.Same) {
			t.Errorf("case %d: %v, %d", i, got, err)
		}
	}
}

func TestCarryAnswersNewMemory(t *testing.T) {
	c := api.Class{Name: "c", Fields: []api.Field{{Name: "l", Type: api.Type{Kind: api.List, Of: api.Num}}}}
	vals := []api.Val{{Kind: api.List, L: nums(1, 2)}}
	got, err := schema.Carry(of(line(c)), 0, 0, 0, vals)
	if err != api.OK || len(got) != 1 {
		t.Fatalf("Carry: %v, %d", got, err)
	}
	got[0].L[0].N = 9
	if vals[0].L[0].N != 1 {
		t.Error("a list is shared")
	}
}

func TestCarriedOverAVersionBetweenIsTheSame(t *testing.T) {
	text := api.Type{Kind: api.Text}
	s := of(line(made("c", "a", "b"),
		add("d", "a-b"), api.Change{Kind: api.ChRename, Field: "a", Name: "aa"}, api.Change{Kind: api.ChTurn, Field: "b", Type: text, Expr: "text(b*10)"},
		api.Change{Kind: api.ChSplit, Field: "b", Name: "b", More: "rest", Type: text, Expr: "left(b,1)", Other: "from(b,1)"}, api.Change{Kind: api.ChDrop, Field: "d"}, api.Change{Kind: api.ChIndex, Field: "aa"}, add("z", "len(rest)")))
	last, err := schema.Last(s, 0)
	if last != 7 || err != api.OK {
		t.Fatalf("Last: %d, %d", last, err)
	}
	for from := range last + 1 {
		vals, _ := schema.Carry(s, 0, 0, from, nums(4, 123))
		for to := from; to <= last; to++ {
			for mid := from; mid <= to; mid++ {
				at, _ := schema.Carry(s, 0, from, to, vals)
				over, _ := schema.Carry(s, 0, from, mid, vals)
				over, err := schema.Carry(s, 0, mid, to, over)
				if err != api.OK || !slices.EqualFunc(at, over, val.Same) {
					t.Errorf("%d, %d, %d: %v, at once %v", from, mid, to, over, at)
				}
				c, _ := schema.At(s, 0, to)
				if at, err := class.Check(c, over); err != api.OK || c.Name != "c" {
					t.Errorf("version %d: value %d does not fit", to, at)
				}
			}
		}
	}
}
