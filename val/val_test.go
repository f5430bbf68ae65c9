package val_test

import (
	"math"
	"slices"
	"strings"
	"testing"

	"moraine/api"
	"moraine/val"
	"moraine/wire"
)

func num(n int) api.Val         { return api.Val{Kind: api.Num, N: n} }
func text(s string) api.Val     { return api.Val{Kind: api.Text, S: s} }
func ref(n int) api.Val         { return api.Val{Kind: api.Ref, N: n} }
func weak(n int) api.Val        { return api.Val{Kind: api.Weak, N: n} }
func list(l ...api.Val) api.Val { return api.Val{Kind: api.List, L: l} }
func of(kind, of int) api.Type  { return api.Type{Kind: kind, Of: of} }
func many(v api.Val, n int) (l []api.Val) {
	for range n {
		l = append(l, v)
	}
	return l
}

// rights are right values, in their order.
func rights() []api.Val {
	return []api.Val{
		{}, num(-api.MaxNum), num(-65), num(-1), num(0), num(7), num(300), num(api.MaxNum),
		text(""), text(" "), text("\""), text("\"\\"), text("a"), text("a\"b"), text("ab"), text("b"), text(strings.Repeat("c", 60)), text(strings.Repeat("ü", 30)), text("\U0010ffff"),
		ref(-20), ref(-1), ref(1), ref(100000), weak(-20), weak(-1), weak(1), weak(100000),
		list(), list(api.Val{}), list(api.Val{}, num(1)), list(num(1)), list(num(1), text("a\"b"), ref(7), api.Val{}), list(num(1), weak(2)), list(num(2)), list(many(text("x"), 12)...),
	}
}

// wrongs are values that are not right.
func wrongs() []api.Val {
	return []api.Val{
		{N: 1}, {S: "a"}, {L: many(num(1), 1)}, {Kind: -1}, {Kind: 6}, {Kind: math.MaxInt},
		num(api.MaxNum + 1), num(-api.MaxNum - 1), num(math.MinInt), {Kind: api.Num, S: "a"}, {Kind: api.Num, L: many(num(1), 1)},
		text(strings.Repeat("c", 61)), text("\x1f"), text("\x7f"), text("a\nb"), text("\xff"), text("\xc3"), text("\xed\xa0\x80"), {Kind: api.Text, N: 1},
		ref(0), ref(100001), ref(-21), weak(0), weak(100001), weak(-21), {Kind: api.Ref, N: 1, S: "a"}, {Kind: api.Weak, N: 1, L: many(num(1), 1)},
		list(list()), list(num(1), num(api.MaxNum+1)), list(many(num(1), 13)...), {Kind: api.List, N: 1}, {Kind: api.List, S: "a"},
	}
}

func TestRight(t *testing.T) {
	for _, v := range rights() {
		if !val.Right(v) {
			t.Errorf("%v is not right", v)
		}
	}
	for _, v := range wrongs() {
		if val.Right(v) {
			t.Errorf("%v is right", v)
		}
	}
}

func TestCompareIsOneOrder(t *testing.T) {
	all := rights()
	for i, a := range all {
		for j, b := range all {
			want := 0
			if i < j {
				want = -1
			} else if i > j {
				want = 1
			}
			if got := val.Compare(a, b); got != want {
				t.Errorf("Compare(%v, %v) = %d", a, b, got)
			}
			if got := val.Same(a, b); got != (i == j) {
				t.Errorf("Same(%v, %v) = %t", a, b, got)
			}
		}
	}
}

func TestCompareOfAnyValues(t *testing.T) {
	for i, c := range []struct {
		a, b api.Val
		want int
	}{
		{api.Val{Kind: -3}, api.Val{Kind: 9}, -1},
		{api.Val{Kind: 1, N: 2}, api.Val{Kind: 1, N: 1, S: "z"}, 1},
		{api.Val{S: "\xff"}, api.Val{S: "\xfe\xff"}, 1},
		{api.Val{S: "a", L: many(num(9), 1)}, api.Val{S: "ab"}, -1},
		{api.Val{L: []api.Val{list(list(num(1)))}}, api.Val{L: []api.Val{list(list(num(2)))}}, -1},
		{api.Val{L: []api.Val{}}, api.Val{}, 0},
		{num(math.MinInt), num(math.MaxInt), -1},
	} {
		if got := val.Compare(c.a, c.b); got != c.want || val.Compare(c.b, c.a) != -c.want || val.Same(c.a, c.b) != (c.want == 0) {
			t.Errorf("case %d: %d", i, got)
		}
	}
}

func TestFits(t *testing.T) {
	for i, c := range []struct {
		v    api.Val
		t    api.Type
		want bool
	}{
		{num(5), of(api.Num, 0), true}, {num(5), of(api.Text, 0), false}, {text("5"), of(api.Text, 0), true},
		{ref(5), of(api.Ref, 0), true}, {weak(5), of(api.Ref, 0), false}, {ref(5), of(api.Weak, 0), false}, {ref(-1), of(api.Ref, 0), true},
		{api.Val{}, of(api.Ref, 0), true}, {api.Val{}, of(api.Weak, 0), true}, {api.Val{}, of(api.Num, 0), false}, {api.Val{}, of(api.List, api.Ref), false},
		{list(), of(api.List, api.Num), true}, {list(num(1), num(2)), of(api.List, api.Num), true}, {list(num(1), text("")), of(api.List, api.Num), false},
		{list(ref(1), api.Val{}), of(api.List, api.Ref), true}, {list(api.Val{}), of(api.List, api.Num), false}, {list(weak(1)), of(api.List, api.Ref), false}, {list(weak(1), api.Val{}), of(api.List, api.Weak), true},
		{num(1), of(api.List, api.Num), false}, {list(), of(api.Num, 0), false},
		{num(api.MaxNum + 1), of(api.Num, 0), false}, {list(list()), of(api.List, api.List), false},
		{num(5), of(api.Num, 1), false}, {list(), of(api.List, 0), false}, {list(), of(api.List, api.List), false}, {api.Val{}, of(0, 0), false}, {api.Val{}, of(-1, 0), false}, {list(), of(api.List, -1), false},
	} {
		if got := val.Fits(c.v, c.t); got != c.want {
			t.Errorf("case %d: Fits(%v, %v) = %t", i, c.v, c.t, got)
		}
	}
}

func TestZero(t *testing.T) {
	for at, want := range map[api.Type]api.Val{
		of(api.Num, 0): num(0), of(api.Text, 0): text(""), of(api.Ref, 0): {}, of(api.Weak, 0): {}, of(api.List, api.Ref): list(), of(api.List, api.Weak): list(),
		of(0, 0): {}, of(6, 0): {}, of(api.Num, 1): {}, of(api.List, 0): {}, of(api.List, api.List): {}, of(-1, -1): {},
	} {
		if got := val.Zero(at); !val.Same(got, want) {
			t.Errorf("Zero(%v) = %v", at, got)
		}
	}
}

func TestRefsAndWeaks(t *testing.T) {
	mixed := list(ref(3), weak(4), ref(3), api.Val{}, ref(-2), weak(4), num(9))
	for i, c := range []struct {
		v           api.Val
		refs, weaks []int
	}{
		{num(5), nil, nil}, {ref(5), []int{5}, nil}, {weak(5), nil, []int{5}}, {ref(-20), []int{-20}, nil}, {api.Val{}, nil, nil},
		{mixed, []int{3, 3, -2}, []int{4, 4}}, {ref(0), nil, nil}, {list(ref(3), ref(0)), nil, nil}, {list(weak(3), list()), nil, nil},
	} {
		if refs, weaks := val.Refs(c.v), val.Weaks(c.v); !slices.Equal(refs, c.refs) || !slices.Equal(weaks, c.weaks) {
			t.Errorf("case %d: %v, %v", i, refs, weaks)
		}
	}
}

func TestEncode(t *testing.T) {
	for want, v := range map[string]api.Val{
		"\x00": {}, "\x02\x02": num(1), "\x02\x01": num(-1), "\x04\x02a": text("a"), "\x06\x0e": ref(7), "\x08\x01": weak(-1),
		"\x0a\x00": list(), "\x0a\x06\x02\x02\x04\x00\x00": list(num(1), text(""), api.Val{}),
	} {
		if got, err := val.Encode(v); got != want || err != api.OK {
			t.Errorf("Encode(%v) = %x, %d", v, got, err)
		}
	}
	for _, v := range wrongs() {
		if got, err := val.Encode(v); got != "" || err != api.ErrVal {
			t.Errorf("Encode(%v) = %x, %d", v, got, err)
		}
	}
}

func TestDecodeUndoesEncode(t *testing.T) {
	var laid []string
	for _, v := range rights() {
		s, _ := val.Encode(v)
		got, to, err := val.Decode("\x05"+s+"\x7f", 1)
		if !val.Same(got, v) || to != 1+len(s) || err != api.OK {
			t.Errorf("Decode of %v: %v, %d, %d", v, got, to, err)
		}
		for short := range len(s) {
			if got, to, err := val.Decode(s[:short], 0); !val.Same(got, api.Val{}) || to != 0 || err != api.ErrWire {
				t.Errorf("the first %d bytes of %v: %v, %d, %d", short, v, got, to, err)
			}
		}
		for _, other := range laid {
			if strings.HasPrefix(other, s) || strings.HasPrefix(s, other) {
				t.Errorf("%x begins with %x", s, other)
			}
		}
		laid = append(laid, s)
	}
}

func TestDecodeTellsTheFirstFault(t *testing.T) {
	long, _ := wire.Text(strings.Repeat("c", 61))
	for s, want := range map[string]api.Errno{
		"": api.ErrWire, "\x80\x00": api.ErrWire, "\x0c": api.ErrVal, "\x01": api.ErrVal, "\x02": api.ErrWire, "\x02" + wire.Num(api.MaxNum+1): api.ErrVal,
		"\x04\x04a": api.ErrWire, "\x04\x02\x1f": api.ErrVal, "\x04" + long: api.ErrVal, "\x04\x02\xff": api.ErrVal,
		"\x06\x00": api.ErrVal, "\x08" + wire.Num(-21): api.ErrVal, "\x08": api.ErrWire,
		"\x0a": api.ErrWire, "\x0a\x01": api.ErrVal, "\x0a\x1a": api.ErrVal, "\x0a\x18": api.ErrWire, "\x0a\x02\x0a\x00": api.ErrVal, "\x0a\x02\x0a": api.ErrVal, "\x0a\x04\x02\x02\x0c": api.ErrVal,
		"\x0a\x04\x02\x80\x00\x0c": api.ErrWire, "\x0a" + wire.Num(math.MaxInt): api.ErrVal,
	} {
		if v, to, err := val.Decode(s, 0); !val.Same(v, api.Val{}) || to != 0 || err != want {
			t.Errorf("Decode(%x): %v, %d, %d, want %d", s, v, to, err, want)
		}
	}
	for _, at := range []int{-1, 3, math.MinInt, math.MaxInt} {
		if v, to, err := val.Decode("\x02\x02", at); !val.Same(v, api.Val{}) || to != 0 || err != api.ErrArg {
			t.Errorf("Decode at %d: %v, %d, %d", at, v, to, err)
		}
	}
	if _, _, err := val.Decode("\x02\x02", 2); err != api.ErrWire {
		t.Errorf("Decode at the end: %d", err)
	}
}

func TestText(t *testing.T) {
	for want, v := range map[string]api.Val{
		"-": {}, "0": num(0), "-5": num(-5), "1000000000000000": num(api.MaxNum), `""`: text(""), `"a\"b\\"`: text(`a"b\`),
		"@7": ref(7), "@-1": ref(-1), "~7": weak(7), "[]": list(), `[1 "a\"b" @7 -]`: list(num(1), text(`a"b`), ref(7), api.Val{}),
	} {
		if got, err := val.Text(v); got != want || err != api.OK {
			t.Errorf("Text(%v) = %s, %d", v, got, err)
		}
	}
	for _, v := range wrongs() {
		if got, err := val.Text(v); got != "" || err != api.ErrVal {
			t.Errorf("Text(%v) = %s, %d", v, got, err)
		}
	}
}

func TestReadUndoesText(t *testing.T) {
	for _, v := range rights() {
		s, _ := val.Text(v)
		for _, behind := range []string{"", " ", "]", "x", ";"} {
			got, to, err := val.Read("1 "+s+behind, 2)
			if !val.Same(got, v) || to != 2+len(s) || err != api.OK {
				t.Errorf("Read of %s: %v, %d, %d", s, got, to, err)
			}
		}
	}
}

func TestReadTakesTheLongestText(t *testing.T) {
	for s, want := range map[string]struct {
		v  api.Val
		to int
	}{
		"007": {num(0), 1}, "- 5": {api.Val{}, 1}, "-5": {num(-5), 2}, "-0": {api.Val{}, 1}, "-05": {api.Val{}, 1}, "--1": {api.Val{}, 1}, "-x": {api.Val{}, 1},
		"1000000000000001": {num(100000000000000), 15}, "-10000000000000000": {num(-api.MaxNum), 17}, "12345678901234567890": {num(123456789012345), 15},
		"99999999999999999999999999": {num(999999999999999), 15},
		"@1000000":                   {ref(100000), 7}, "@100001": {ref(10000), 6}, "@-21": {ref(-2), 3}, "~100001": {weak(10000), 6}, "~-21": {weak(-2), 3}, "~-205": {weak(-20), 4}, "~12]": {weak(12), 3},
		"[] ]": {list(), 2}, "[-]": {list(api.Val{}), 3}, "[-5 -]x": {list(num(-5), api.Val{}), 6},
	} {
		got, to, err := val.Read(s, 0)
		if !val.Same(got, want.v) || to != want.to || err != api.OK {
			t.Errorf("Read(%s): %v, %d, %d", s, got, to, err)
		}
	}
}

func TestReadRefusesWhatIsNoValue(t *testing.T) {
	thirteen := "[" + strings.Repeat("1 ", 12) + "1]"
	for _, s := range []string{
		"", "x", " 1", "+1", "@", "@0", "@-", "@-0", "@05", "~", "~x", `"`, `"a`, `"\`, `"\a"`, "\"\n\"", "\"\xff\"", `"` + strings.Repeat("c", 61) + `"`,
		"[", "[1", "[1 ", "[ 1]", "[1 ]", "[1  2]", "[1,2]", "[[]]", "[@0]", "[1000000000000001]", "[007]", "[-05]", thirteen, "[1 2", "]", "x]", "(1]", "1x]"[1:], "]1]",
	} {
		if v, to, err := val.Read("ab"+s, 2); !val.Same(v, api.Val{}) || to != 2 || err != api.ErrVal {
			t.Errorf("Read(%s): %v, %d, %d", s, v, to, err)
		}
	}
	for _, at := range []int{-1, 2, math.MinInt, math.MaxInt} {
		if v, to, err := val.Read("1", at); !val.Same(v, api.Val{}) || to != at || err != api.ErrArg {
			t.Errorf("Read at %d: %v, %d, %d", at, v, to, err)
		}
	}
}

// anyVal is a value out of three bytes, one of the first kinds.
func anyVal(kinds, a, b, c byte) api.Val {
	v := api.Val{Kind: int(a % kinds)}
	switch v.Kind {
	case api.Num:
		v.N = int(int8(b)) << (c % 44)
	case api.Text:
		v.S = strings.Repeat(string(rune(' '+b%90)), int(c%61))
	case api.Ref, api.Weak:
		v.N = int(b)*391 + 1
	case api.List:
		for i := range b % 13 {
			v.L = append(v.L, anyVal(api.List, c+i*7, a+i, b))
		}
	}
	return v
}

func FuzzBytesAndTextsAreUndone(f *testing.F) {
	f.Add([]byte{5, 12, 3})
	f.Add([]byte{2, 20, 60})
	f.Fuzz(func(t *testing.T, seed []byte) {
		if len(seed) < 3 {
			return
		}
		v := anyVal(6, seed[0], seed[1], seed[2])
		s, err := val.Encode(v)
		if got, to, _ := val.Decode(s, 0); err == api.OK && (!val.Same(got, v) || to != len(s)) {
			t.Errorf("%v comes back as %v", v, got)
		}
		w, err := val.Text(v)
		if got, to, _ := val.Read(w, 0); err == api.OK && (!val.Same(got, v) || to != len(w)) {
			t.Errorf("%s comes back as %v", w, got)
		}
		if got, to, err := val.Read(string(seed), 0); err == api.OK {
			if w, _ := val.Text(got); w != string(seed[:to]) {
				t.Errorf("%q is read as %s", seed, w)
			}
		}
		if got, to, err := val.Decode(string(seed), 0); err == api.OK {
			if w, _ := val.Encode(got); w != string(seed[:to]) {
				t.Errorf("%x is read as %x", seed, w)
			}
		}
	})
}
