package class_test

import (
	"math"
	"strconv"
	"strings"
	"testing"

	"moraine/api"
	"moraine/class"
	"moraine/val"
	"moraine/wire"
)

func of(kind, of int) api.Type { return api.Type{Kind: kind, Of: of} }

func field(name string, kind int) api.Field { return api.Field{Name: name, Type: of(kind, 0)} }

func made(name string, fields ...api.Field) api.Class { return api.Class{Name: name, Fields: fields} }

// fields are so many, with unlike names.
func fields(n int) (l []api.Field) {
	for i := range n {
		l = append(l, field("f"+strconv.Itoa(i), api.Num))
	}
	return l
}

func indexed(t api.Type) api.Field { return api.Field{Name: "x", Type: t, Indexed: true} }

func rights() []api.Class {
	return []api.Class{
		made("c"), made("c", field("a", api.Num), field("b", api.Ref)), made(strings.Repeat("z", 20), fields(8)...), made("c_9", field("c_9", api.Weak)),
		made("c", indexed(of(api.Num, 0))), made("c", indexed(of(api.Text, 0))), made("c", indexed(of(api.Ref, 0))),
		made("c", api.Field{Name: "l", Type: of(api.List, api.Weak)}, api.Field{Name: "m", Type: of(api.List, api.Num)}),
	}
}

func wrongs() []api.Class {
	return []api.Class{
		{}, made(""), made("C"), made(strings.Repeat("z", 21)), made("c", fields(9)...), made("c", field("", api.Num)), made("c", field("9", api.Num)),
		made("c", field("a", api.Num), field("b", api.Num), field("a", api.Text)), made("c", field("a", api.Nil)), made("c", field("a", api.List)), made("c", field("a", 6)),
		made("c", api.Field{Name: "a", Type: of(api.Num, 1)}), made("c", api.Field{Name: "a", Type: of(api.List, api.List)}),
		made("c", indexed(of(api.Weak, 0))), made("c", indexed(of(api.List, api.Num))),
	}
}

func TestRightType(t *testing.T) {
	for kind := -1; kind <= 7; kind++ {
		for inner := -1; inner <= 7; inner++ {
			want := kind >= 1 && kind <= 4 && inner == 0 || kind == 5 && inner >= 1 && inner <= 4
			if class.RightType(of(kind, inner)) != want {
				t.Errorf("RightType(%d, %d) = %t", kind, inner, !want)
			}
		}
	}
}

func TestRight(t *testing.T) {
	for _, c := range rights() {
		if !class.Right(c) {
			t.Errorf("%v is not right", c)
		}
	}
	for _, c := range wrongs() {
		if class.Right(c) {
			t.Errorf("%v is right", c)
		}
	}
}

func TestSame(t *testing.T) {
	all := append(rights(), wrongs()[1:]...)
	for i, a := range all {
		for j, b := range all {
			if class.Same(a, b) != (i == j) {
				t.Errorf("Same(%v, %v) = %t", a, b, i != j)
			}
		}
	}
	if !class.Same(made("c"), api.Class{Name: "c", Fields: []api.Field{}}) {
		t.Error("no fields are unlike an empty list of them")
	}
	if class.Same(made("c", indexed(of(1, 0))), made("c", field("x", 1))) {
		t.Error("whether a field is indexed makes no difference")
	}
}

func TestField(t *testing.T) {
	c := made("", field("a", 1), field("b", 2), field("a", 3))
	for name, want := range map[string]int{"a": 0, "b": 1, "c": -1, "": -1} {
		at, ok := class.Field(c, name)
		if ok != (want >= 0) || at != max(want, 0) {
			t.Errorf("Field %q: %d, %t", name, at, ok)
		}
	}
}

func TestCheck(t *testing.T) {
	num, ref, text := api.Val{Kind: api.Num, N: 5}, api.Val{Kind: api.Ref, N: 3}, api.Val{Kind: api.Text}
	c := made("c", field("a", api.Num), field("b", api.Ref))
	for i, x := range []struct {
		c    api.Class
		vals []api.Val
		at   int
		want api.Errno
	}{
		{c, []api.Val{num, ref}, 0, api.OK}, {c, []api.Val{num, {}}, 0, api.OK}, {c, []api.Val{num, {Kind: api.Ref, N: -3}}, 0, api.OK}, {made("c"), nil, 0, api.OK},
		{c, []api.Val{num}, 1, api.ErrFit}, {c, nil, 0, api.ErrFit}, {c, []api.Val{text, ref, num}, 2, api.ErrFit}, {made("c"), []api.Val{num}, 0, api.ErrFit},
		{c, []api.Val{text, ref}, 0, api.ErrFit}, {c, []api.Val{num, text}, 1, api.ErrFit}, {c, []api.Val{num, {Kind: api.Ref}}, 1, api.ErrFit},
		{c, []api.Val{{Kind: api.Num, N: api.MaxNum + 1}, ref}, 0, api.ErrFit}, {c, []api.Val{{}, {}}, 0, api.ErrFit},
		{api.Class{}, nil, 0, api.ErrClass}, {made("c", field("a", 9)), []api.Val{num, num}, 0, api.ErrClass},
	} {
		if at, err := class.Check(x.c, x.vals); at != x.at || err != x.want {
			t.Errorf("case %d: %d, %d", i, at, err)
		}
	}
}

func TestEncode(t *testing.T) {
	c := made("ab", indexed(of(api.Num, 0)), api.Field{Name: "l", Type: of(api.List, api.Ref)})
	want := "\x04ab\x04" + "\x02x\x02\x00\x02" + "\x02l\x0a\x06\x00"
	if got, err := class.Encode(c); got != want || err != api.OK {
		t.Errorf("Encode: %x, %d", got, err)
	}
	for _, c := range wrongs() {
		if got, err := class.Encode(c); got != "" || err != api.ErrClass {
			t.Errorf("Encode(%v): %x, %d", c, got, err)
		}
	}
}

func TestDecodeUndoesEncode(t *testing.T) {
	for _, c := range rights() {
		s, _ := class.Encode(c)
		got, to, err := class.Decode("\x00"+s+"\xff", 1)
		if !class.Same(got, c) || to != 1+len(s) || err != api.OK {
			t.Errorf("%v comes back as %v, %d, %d", c, got, to, err)
		}
		for short := range len(s) {
			if got, to, err := class.Decode(s[:short], 0); !class.Same(got, api.Class{}) || to != 0 || err != api.ErrWire {
				t.Errorf("the first %d bytes of %v: %v, %d, %d", short, c, got, to, err)
			}
		}
	}
}

func TestDecodeRefusesWhatIsNoClass(t *testing.T) {
	one := "\x02a\x02\x00"
	for _, s := range []string{
		"", "\x00\x00", "\x02C\x00", "\x02c\x01", "\x02c\x12" + strings.Repeat("\x02a\x02\x00\x00", 9), "\x02c" + wire.Num(math.MaxInt), "\x02c" + wire.Num(math.MinInt),
		"\x02c\x02" + one + "\x04", "\x02c\x02" + one + "\x01", "\x02c\x04" + one + "\x00" + one + "\x00", "\x02c\x02\x02a\x08\x00\x02", "\x02c\x02\x02a\x0c\x00\x00", "\x02c\x02\x02a\x02\x02\x00",
		"\x02c\x80\x00",
	} {
		if c, to, err := class.Decode(s, 0); !class.Same(c, api.Class{}) || to != 0 || err != api.ErrWire {
			t.Errorf("Decode(%x): %v, %d, %d", s, c, to, err)
		}
	}
	for _, at := range []int{-1, 4, math.MinInt, math.MaxInt} {
		if c, to, err := class.Decode("\x02c\x00", at); !class.Same(c, api.Class{}) || to != 0 || err != api.ErrWire {
			t.Errorf("Decode at %d: %v, %d, %d", at, c, to, err)
		}
	}
}

func TestZeroFitsEachRightType(t *testing.T) {
	for _, c := range rights() {
		var vals []api.Val
		for _, f := range c.Fields {
			vals = append(vals, val.Zero(f.Type))
		}
		if at, err := class.Check(c, vals); at != 0 || err != api.OK {
			t.Errorf("%v: %d, %d", c, at, err)
		}
	}
}
