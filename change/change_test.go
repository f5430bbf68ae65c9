package change_test

import (
	"math"
	"slices"
	"strings"
	"testing"

	"moraine/api"
	"moraine/change"
	"moraine/class"
	"moraine/val"
)

func of(kind int) api.Type { return api.Type{Kind: kind} }

func num(n int) api.Val     { return api.Val{Kind: api.Num, N: n} }
func text(s string) api.Val { return api.Val{Kind: api.Text, S: s} }

// thing is a class with a field of each kind, and thingVals its values.
func thing() api.Class {
	return api.Class{Name: "thing", Fields: []api.Field{
		{Name: "n", Type: of(api.Num), Indexed: true}, {Name: "t", Type: of(api.Text)}, {Name: "r", Type: of(api.Ref)}, {Name: "w", Type: of(api.Weak)},
		{Name: "l", Type: api.Type{Kind: api.List, Of: api.Num}},
	}}
}

func thingVals() []api.Val {
	return []api.Val{num(7), text("ab c"), {Kind: api.Ref, N: 3}, {Kind: api.Weak, N: 4}, {Kind: api.List, L: []api.Val{num(1)}}}
}

func full() api.Class {
	c := thing()
	for _, name := range []string{"x", "y", "z"} {
		c.Fields = append(c.Fields, api.Field{Name: name, Type: of(api.Num)})
	}
	return c
}

func fullVals() []api.Val { return append(thingVals(), num(1), num(2), num(3)) }

func add(name string, t api.Type, e string) api.Change {
	return api.Change{Kind: api.ChAdd, Name: name, Type: t, Expr: e}
}
func drop(field string) api.Change { return api.Change{Kind: api.ChDrop, Field: field} }
func rename(field, name string) api.Change {
	return api.Change{Kind: api.ChRename, Field: field, Name: name}
}
func turn(field string, t api.Type, e string) api.Change {
	return api.Change{Kind: api.ChTurn, Field: field, Type: t, Expr: e}
}
func split(field, name, more string, t api.Type, e, other string) api.Change {
	return api.Change{Kind: api.ChSplit, Field: field, Name: name, More: more, Type: t, Expr: e, Other: other}
}
func index(field string) api.Change { return api.Change{Kind: api.ChIndex, Field: field} }

// result is what a change makes of a class, told shortly, and of its values.
type result struct {
	fields string
	vals   []api.Val
}

// shortly tells a class's fields.
func shortly(c api.Class) string {
	var l []string
	for _, f := range c.Fields {
		s := f.Name + ":" + string("-ntrwl"[f.Type.Kind])
		if f.Type.Of > 0 {
			s += string("-ntrwl"[f.Type.Of])
		}
		if f.Indexed {
			s += "!"
		}
		l = append(l, s)
	}
	return strings.Join(l, " ")
}

func TestRightChanges(t *testing.T) {
	v := thingVals()
	nums := api.Type{Kind: api.List, Of: api.Num}
	for ch, want := range map[api.Change]result{
		add("m", of(api.Num), "n*2"):       {"n:n! t:t r:r w:w l:ln m:n", append(thingVals(), num(14))},
		add("m", of(api.Text), ""):         {"n:n! t:t r:r w:w l:ln m:t", append(thingVals(), text(""))},
		add("m", of(api.Ref), "r"):         {"n:n! t:t r:r w:w l:ln m:r", append(thingVals(), v[2])},
		add("m", of(api.Ref), ""):          {"n:n! t:t r:r w:w l:ln m:r", append(thingVals(), api.Val{})},
		add("m", nums, "l"):                {"n:n! t:t r:r w:w l:ln m:ln", append(thingVals(), v[4])},
		add("m", nums, ""):                 {"n:n! t:t r:r w:w l:ln m:ln", append(thingVals(), api.Val{Kind: api.List})},
		drop("n"):                          {"t:t r:r w:w l:ln", v[1:]},
		drop("l"):                          {"n:n! t:t r:r w:w", v[:4]},
		rename("n", "nn"):                  {"nn:n! t:t r:r w:w l:ln", v},
		turn("n", of(api.Text), "text(n)"): {"n:t t:t r:r w:w l:ln", []api.Val{text("7"), v[1], v[2], v[3], v[4]}},
		turn("n", of(api.Num), "n"):        {"n:n t:t r:r w:w l:ln", v},
		turn("t", of(api.Weak), ""):        {"n:n! t:w r:r w:w l:ln", []api.Val{v[0], {}, v[2], v[3], v[4]}},
		split("t", "one", "more", of(api.Text), "left(t, 2)", "from(t, 3)"): {"n:n! one:t more:t r:r w:w l:ln", []api.Val{v[0], text("ab"), text("c"), v[2], v[3], v[4]}},
		split("t", "t", "u", of(api.Text), "t&t", ""):                       {"n:n! t:t u:t r:r w:w l:ln", []api.Val{v[0], text("ab cab c"), text(""), v[2], v[3], v[4]}},
		split("n", "m", "n", of(api.Num), "", "n+1"):                        {"m:n n:n t:t r:r w:w l:ln", []api.Val{num(0), num(8), v[1], v[2], v[3], v[4]}},
		index("n"): {"n:n t:t r:r w:w l:ln", v}, index("t"): {"n:n! t:t! r:r w:w l:ln", v}, index("r"): {"n:n! t:t r:r! w:w l:ln", v},
	} {
		if !change.Right(thing(), ch) {
			t.Errorf("%v is not right", ch)
		}
		c, err := change.Apply(thing(), ch)
		if shortly(c) != want.fields || c.Name != "thing" || err != api.OK || !class.Right(c) {
			t.Errorf("Apply of %v: %s, %d", ch, shortly(c), err)
		}
		vals, err := change.Vals(thing(), ch, thingVals())
		if !slices.EqualFunc(vals, want.vals, val.Same) || err != api.OK {
			t.Errorf("Vals of %v: %v, %d", ch, vals, err)
		}
		if at, err := class.Check(c, vals); err != api.OK {
			t.Errorf("the values of %v don't fit at %d", ch, at)
		}
	}
}

func TestChangesThatAreNotRight(t *testing.T) {
	num := of(api.Num)
	for _, ch := range []api.Change{
		{}, {Kind: 7}, {Kind: -1}, add("", num, ""), add("A", num, ""), add("n", num, ""), add("m", api.Type{}, ""), add("m", of(api.List), ""), add("m", num, "t"), add("m", num, "x"), add("m", num, "n+"), add("m", num, " "),
		add("m", num, "n+t"), add("m", of(api.Ref), "w"), add("m", num, strings.Repeat("-", 8)+"n"), add("m", api.Type{Kind: api.List, Of: api.Text}, "l"),
		drop(""), drop("x"), drop("9"), rename("n", "t"), rename("n", "n"), rename("x", "y"), rename("n", ""), rename("", "x"), rename("n", "X"),
		turn("x", num, ""), turn("n", num, "t"), turn("n", api.Type{}, ""), turn("n", num, "("), turn("", num, ""),
		split("x", "a", "b", num, "", ""), split("n", "a", "a", num, "", ""), split("n", "t", "b", num, "", ""), split("n", "a", "t", num, "", ""), split("n", "a", "", num, "", ""), split("n", "", "b", num, "", ""),
		split("n", "a", "b", num, "t", ""), split("n", "a", "b", num, "", "t"), split("n", "a", "b", num, "", ")"), split("n", "a", "b", api.Type{}, "", ""), split("n", "n", "n", num, "", ""),
		index("x"), index(""), index("w"), index("l"),
	} {
		refused(t, thing(), ch, thingVals())
	}
	for _, ch := range []api.Change{add("m", num, ""), split("n", "a", "b", num, "", "")} {
		refused(t, full(), ch, fullVals())
	}
	for _, ch := range []api.Change{drop("x"), rename("x", "xx"), turn("x", num, "y"), index("x")} {
		if !change.Right(full(), ch) {
			t.Errorf("%v of a class of all fields that may be is not right", ch)
		}
	}
}

func refused(t *testing.T, c api.Class, ch api.Change, vals []api.Val) {
	t.Helper()
	if change.Right(c, ch) {
		t.Errorf("%v is right", ch)
	}
	if got, err := change.Apply(c, ch); !class.Same(got, api.Class{}) || err != api.ErrChange {
		t.Errorf("Apply of %v: %v, %d", ch, got, err)
	}
	if got, err := change.Vals(c, ch, vals); len(got) != 0 || err != api.ErrChange {
		t.Errorf("Vals of %v: %v, %d", ch, got, err)
	}
}

// excess are right changes that have something that their kind does not need.
func excess() []api.Change {
	var all []api.Change
	for _, ch := range []api.Change{add("m", of(api.Num), ""), drop("n"), rename("n", "m"), turn("n", of(api.Num), ""), index("n"), split("n", "a", "b", of(api.Num), "", "")} {
		for _, more := range []func(*api.Change) bool{
			func(c *api.Change) bool { was := c.Field; c.Field = "n"; return was == "" }, func(c *api.Change) bool { was := c.Name; c.Name = "z"; return was == "" }, func(c *api.Change) bool { was := c.More; c.More = "y"; return was == "" },
			func(c *api.Change) bool { was := c.Type; c.Type = of(api.Num); return was.Kind == 0 }, func(c *api.Change) bool {
				was := c.Kind
				c.Expr = "1"
				return was == api.ChDrop || was == api.ChRename || was == api.ChIndex
			},
			func(c *api.Change) bool { was := c.Kind; c.Other = "1"; return was != api.ChSplit },
		} {
			other := ch
			if more(&other) {
				all = append(all, other)
			}
		}
	}
	return all
}

func TestWhatIsNotNeededIsZero(t *testing.T) {
	if len(excess()) < 20 {
		t.Errorf("only %d changes", len(excess()))
	}
	for _, ch := range excess() {
		refused(t, thing(), ch, thingVals())
		if s, err := change.Encode(ch); s != "" || err != api.ErrChange {
			t.Errorf("Encode of %v: %x, %d", ch, s, err)
		}
	}
}

func TestClassesAndValuesThatAreNotRight(t *testing.T) {
	ch := drop("n")
	if change.Right(api.Class{}, ch) {
		t.Error("a change of no class is right")
	}
	if _, err := change.Apply(api.Class{}, api.Change{}); err != api.ErrClass {
		t.Errorf("Apply: %d", err)
	}
	if _, err := change.Vals(api.Class{}, api.Change{}, nil); err != api.ErrClass {
		t.Errorf("Vals: %d", err)
	}
	if got, err := change.Vals(thing(), api.Change{}, thingVals()[1:]); got != nil || err != api.ErrFit {
		t.Errorf("Vals of too few: %v, %d", got, err)
	}
}

func TestSame(t *testing.T) {
	all := append(excess(), api.Change{}, drop("n"), drop("m"), add("m", of(api.Num), ""), add("m", of(api.Text), ""))
	for i, a := range all {
		for j, b := range all {
			if change.Same(a, b) != (i == j) {
				t.Errorf("Same(%v, %v) = %t", a, b, i != j)
			}
		}
	}
}

func TestWhatComesAndGoesLeavesWhatThereWas(t *testing.T) {
	for _, l := range [][]api.Change{
		{add("m", of(api.Num), "n*2"), drop("m")}, {rename("r", "s"), rename("s", "r")}, {index("t"), index("t")}, {index("n"), index("n")},
	} {
		c, vals := thing(), thingVals()
		for _, ch := range l {
			next, _ := change.Apply(c, ch)
			vals, _ = change.Vals(c, ch, vals)
			c = next
		}
		if !class.Same(c, thing()) || !slices.EqualFunc(vals, thingVals(), val.Same) {
			t.Errorf("%v leaves %v, %v", l, c, vals)
		}
	}
}

func TestNothingIsShared(t *testing.T) {
	c, vals := thing(), thingVals()
	got, _ := change.Apply(c, rename("n", "m"))
	got.Fields[1].Name = "zz"
	told, _ := change.Vals(c, add("m", api.Type{Kind: api.List, Of: api.Num}, "l"), vals)
	told[4].L[0].N, told[5].L[0].N = 98, 99
	if !class.Same(c, thing()) || !slices.EqualFunc(vals, thingVals(), val.Same) || told[4].L[0].N != 98 {
		t.Error("what is answered is shared")
	}
	spare := append(make([]api.Field, 0, 20), c.Fields...)
	change.Apply(api.Class{Name: "c", Fields: spare}, add("m", of(api.Num), ""))
	if spare[:6][5].Name != "" {
		t.Error("spare room is written into")
	}
}

func TestBytes(t *testing.T) {
	want := "\x0a" + "\x02t" + "\x06one" + "\x08more" + "\x04\x00" + "\x14left(t, 2)" + "\x00"
	if got, err := change.Encode(split("t", "one", "more", of(api.Text), "left(t, 2)", "")); got != want || err != api.OK {
		t.Errorf("Encode: %x, %d", got, err)
	}
	for _, ch := range []api.Change{
		add("m", of(api.Num), "whatever + 1"), add("m", api.Type{Kind: api.List, Of: api.Weak}, ""), drop("x"), rename("a", "a"), turn("n", of(api.Text), `"a" & b`), split("a", "a", "a", of(api.Ref), "a", "b"), index("l"),
	} {
		s, err := change.Encode(ch)
		if err != api.OK {
			t.Errorf("Encode of %v: %d", ch, err)
		}
		got, to, err := change.Decode("\x01"+s+"\x02", 1)
		if !change.Same(got, ch) || to != 1+len(s) || err != api.OK {
			t.Errorf("%v comes back as %v, %d, %d", ch, got, to, err)
		}
		for short := range len(s) {
			if got, to, err := change.Decode(s[:short], 0); !change.Same(got, api.Change{}) || to != 0 || err != api.ErrWire {
				t.Errorf("the first %d bytes of %v: %v, %d, %d", short, ch, got, to, err)
			}
		}
	}
}

func TestBytesOfNoChange(t *testing.T) {
	for _, s := range []string{
		"", "\x00\x00\x00\x00\x00\x00\x00\x00", "\x0e\x02a\x00\x00\x00\x00\x00\x00", "\x04\x02A\x00\x00\x00\x00\x00\x00", "\x04\x02a\x02b\x00\x00\x00\x00\x00", "\x02\x00\x02a\x00\x02\x02\x00\x00",
		"\x02\x00\x02a\x00\x02\x00\x02+\x00", "\x04\x02a\x00\x00\x00\x00\x00\x80\x00", "\x04\x02a\x00\x00\x02\x00\x00\x00",
	} {
		if got, to, err := change.Decode(s, 0); !change.Same(got, api.Change{}) || to != 0 || err != api.ErrWire {
			t.Errorf("Decode(%x): %v, %d, %d", s, got, to, err)
		}
	}
	s, _ := change.Encode(drop("a"))
	for _, at := range []int{-1, len(s), len(s) + 1, math.MaxInt, math.MinInt} {
		if _, _, err := change.Decode(s, at); err != api.ErrWire {
			t.Errorf("Decode at %d: %d", at, err)
		}
	}
}
