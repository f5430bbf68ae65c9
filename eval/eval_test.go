package eval_test

import (
	"math/big"
	"math/rand"
	"strconv"
	"strings"
	"testing"

	"moraine/api"
	"moraine/class"
	"moraine/eval"
	"moraine/expr"
	"moraine/val"
)

// thing is a class with a field of each kind.
func thing() api.Class {
	return api.Class{Name: "thing", Fields: []api.Field{
		{Name: "n", Type: api.Type{Kind: api.Num}, Indexed: true}, {Name: "m", Type: api.Type{Kind: api.Num}},
		{Name: "t", Type: api.Type{Kind: api.Text}}, {Name: "u", Type: api.Type{Kind: api.Text}},
		{Name: "r", Type: api.Type{Kind: api.Ref}}, {Name: "w", Type: api.Type{Kind: api.Weak}},
		{Name: "l", Type: api.Type{Kind: api.List, Of: api.Num}},
	}}
}

func num(n int) api.Val     { return api.Val{Kind: api.Num, N: n} }
func text(s string) api.Val { return api.Val{Kind: api.Text, S: s} }

func values(n, m int, t, u string) []api.Val {
	return []api.Val{num(n), num(m), text(t), text(u), {Kind: api.Ref, N: 9}, {}, {Kind: api.List, L: []api.Val{num(1), num(2)}}}
}

func parsed(t *testing.T, s string) api.Expr {
	t.Helper()
	e, at, err := expr.Parse(s)
	if err != api.OK {
		t.Fatalf("Parse(%s): %d, %d", s, at, err)
	}
	return e
}

func TestType(t *testing.T) {
	for s, want := range map[string]api.Type{
		"5": {Kind: api.Num}, `"a"`: {Kind: api.Text}, "n": {Kind: api.Num}, "t": {Kind: api.Text}, "r": {Kind: api.Ref}, "w": {Kind: api.Weak}, "l": {Kind: api.List, Of: api.Num},
		"n+m": {Kind: api.Num}, "n%m": {Kind: api.Num}, "n=m": {Kind: api.Num}, "t<>u": {Kind: api.Num}, "t&u": {Kind: api.Text}, "-n": {Kind: api.Num},
		"len(t)": {Kind: api.Num}, "left(t,n)": {Kind: api.Text}, "right(t,n)": {Kind: api.Text}, "from(t,n)": {Kind: api.Text}, "find(t,u)": {Kind: api.Num},
		"text(n)": {Kind: api.Text}, "num(t)": {Kind: api.Num}, "if(n,n,m)": {Kind: api.Num}, "if(n,t,u)": {Kind: api.Text}, "min(n,m)": {Kind: api.Num}, "max(n,m)": {Kind: api.Num},
		"if(t<u,if(n,t,u),text(n))": {Kind: api.Text},
	} {
		if got, err := eval.Type(parsed(t, s), thing()); got != want || err != api.OK {
			t.Errorf("Type of %s: %v, %d", s, got, err)
		}
	}
}

func TestTypeRefuses(t *testing.T) {
	for _, s := range []string{
		"x", "n+t", "t+t", "n&t", "n&n", "n=t", "t<n", "-t", "r=r", "w<>w", "l=l", "r+n", "-r", "len(n)", "len(l)", "left(n,n)", "left(t,t)", "right(t,u)", "from(n,t)",
		"find(t,n)", "find(n,t)", "text(t)", "num(n)", "if(t,n,n)", "if(n,n,t)", "if(n,r,r)", "if(n,t,l)", "if(r,n,n)", "min(n,t)", "max(t,u)", "n+x", "len(x)", "if(n,x,n)",
	} {
		if got, err := eval.Type(parsed(t, s), thing()); got != (api.Type{}) || err != api.ErrType {
			t.Errorf("Type of %s: %v, %d", s, got, err)
		}
		if got, err := eval.Eval(parsed(t, s), thing(), nil); !val.Same(got, api.Val{}) || err != api.ErrType {
			t.Errorf("Eval of %s: %v, %d", s, got, err)
		}
	}
	if _, err := eval.Type(api.Expr{Kind: 9}, api.Class{}); err != api.ErrExpr {
		t.Errorf("a tree and a class that are not right: %d", err)
	}
	if _, err := eval.Type(parsed(t, "x"), api.Class{}); err != api.ErrClass {
		t.Errorf("a class that is not right: %d", err)
	}
}

func TestEvalRefuses(t *testing.T) {
	e := parsed(t, "n")
	good := values(1, 2, "a", "b")
	for i, x := range []struct {
		e    api.Expr
		c    api.Class
		vals []api.Val
		want api.Errno
	}{
		{api.Expr{}, thing(), good, api.ErrExpr}, {e, api.Class{}, good, api.ErrClass}, {e, thing(), good[1:], api.ErrFit}, {e, thing(), nil, api.ErrFit},
		{e, thing(), append(append([]api.Val{}, good[:6]...), text("")), api.ErrFit}, {parsed(t, "n+t"), thing(), nil, api.ErrType},
	} {
		if got, err := eval.Eval(x.e, x.c, x.vals); !val.Same(got, api.Val{}) || err != x.want {
			t.Errorf("case %d: %v, %d", i, got, err)
		}
	}
}

func TestEval(t *testing.T) {
	sixty := strings.Repeat("ab", 30)
	vals := values(7, -3, "ab", "")
	for s, want := range map[string]api.Val{
		"5": num(5), `"a\"b"`: text(`a"b`), "n": num(7), "t": text("ab"), "r": {Kind: api.Ref, N: 9}, "w": {}, "l": {Kind: api.List, L: []api.Val{num(1), num(2)}},
		"n/2": num(3), "-n%4": num(-3), "n%m": num(1), "-n/m": num(2), "m/2": num(-1), "n/0": num(0), "n%0": num(0), "t&text(n)": text("ab7"), `find(t,"b")`: num(1),
		`if(n>5,left(t,1),"")`: text("a"), "n+m": num(4), "n-m": num(10), "n*m": num(-21), "--n": num(7),
		"n=7": num(1), "n<>7": num(0), "n<7": num(0), "n<=7": num(1), "n>7": num(0), "n>=7": num(1), "m<n": num(1), "m>=n": num(0), "m<=n": num(1), "n<=m": num(0), "n>=m": num(1),
		`t="ab"`: num(1), `t<"b"`: num(1), `t>"a"`: num(1), `t<=u`: num(0), `"é">"z"`: num(1), `"Z"<"a"`: num(1), `t<>u`: num(1),
		"1000000000000000+1": num(api.MaxNum), "-1000000000000000-1": num(-api.MaxNum), "1000000000000000*1000000000000000": num(api.MaxNum), "-1000000000000000*1000000000000000": num(-api.MaxNum),
		"-1000000000000000*-1000000000000000": num(api.MaxNum), "100000000*10000000": num(api.MaxNum), "100000000*10000001": num(api.MaxNum), "31622777*31622776": num(999999993568952), "31622777*31622777": num(api.MaxNum), "0*m": num(0),
		"1000000000000000*-1": num(-api.MaxNum), "4294967296*4294967296": num(api.MaxNum), "1000000000000000-1000000000000000": num(0),
		"len(t)": num(2), `len("äöü")`: num(3), `len("")`: num(0), `left("äöü",2)`: text("äö"), `left("äöü",0)`: text(""), `left("äöü",-1)`: text(""), `left("äöü",3)`: text("äöü"), `left("äöü",1000000000000000)`: text("äöü"),
		`right("äöü",2)`: text("öü"), `right("äöü",0)`: text(""), `right("äöü",-5)`: text(""), `right("äöü",3)`: text("äöü"), `right("äöü",1000000000000000)`: text("äöü"), `right("",1)`: text(""),
		`from("äöü",2)`: text("ü"), `from("äöü",0)`: text("äöü"), `from("äöü",-1)`: text("äöü"), `from("äöü",3)`: text(""), `from("äöü",9)`: text(""),
		`find("äöü","ü")`: num(2), `find("abab","b")`: num(1), `find(t,"")`: num(0), `find("","")`: num(0), `find(t,"c")`: num(-1), `find("a","ab")`: num(-1),
		"text(0)": text("0"), "text(-n)": text("-7"), "text(-1000000000000000)": text("-1000000000000000"),
		`num("7")`: num(7), `num("-7")`: num(-7), `num("0")`: num(0), `num("07")`: num(0), `num("+7")`: num(0), `num("-0")`: num(0), `num("-")`: num(0), `num("7 ")`: num(0), `num("")`: num(0), `num("@7")`: num(0), `num("1000000000000000")`: num(api.MaxNum), `num("1000000000000001")`: num(0), `num("99999999999999999999")`: num(0),
		"if(0,1,2)": num(2), "if(-1,1,2)": num(1), "min(n,m)": num(-3), "min(m,n)": num(-3), "max(n,m)": num(7), "max(m,n)": num(7), "min(1,1)": num(1),
		`"` + sixty + `"&"c"`: text(sixty), `"` + sixty[:59] + `"&"ü"`: text(sixty[:59]), `"` + sixty[:58] + `"&"üx"`: text(sixty[:58] + "ü"), `"` + sixty[:58] + `"&"€x"`: text(sixty[:58]),
	} {
		if got, err := eval.Eval(parsed(t, s), thing(), vals); !val.Same(got, want) || err != api.OK {
			t.Errorf("Eval of %s: %v, %d, want %v", s, got, err, want)
		}
	}
}

func TestEvalAnswersNewMemory(t *testing.T) {
	vals := values(1, 1, "", "")
	got, _ := eval.Eval(parsed(t, "l"), thing(), vals)
	got.L[0].N = 99
	if vals[6].L[0].N != 1 {
		t.Error("a list is shared")
	}
}

func cutNum(n *big.Int) int {
	most := big.NewInt(api.MaxNum)
	if n.CmpAbs(most) > 0 {
		return n.Sign() * api.MaxNum
	}
	return int(n.Int64())
}

func TestNumbersAreWhatTheyAreWithoutALimitAndCut(t *testing.T) {
	r := rand.New(rand.NewSource(1))
	some := func() int {
		n := r.Intn(api.MaxNum+1) >> r.Intn(50)
		if r.Intn(2) == 0 {
			n = -n
		}
		return n
	}
	for range 3000 {
		a, b := some(), some()
		x, y := big.NewInt(int64(a)), big.NewInt(int64(b))
		wants := map[string]*big.Int{"+": new(big.Int).Add(x, y), "-": new(big.Int).Sub(x, y), "*": new(big.Int).Mul(x, y), "/": new(big.Int), "%": new(big.Int)}
		if b != 0 {
			wants["/"].Quo(x, y)
			wants["%"].Rem(x, y)
		}
		for sign, want := range wants {
			got, err := eval.Eval(parsed(t, "n"+sign+"m"), thing(), values(a, b, "", ""))
			if got.N != cutNum(want) || got.Kind != api.Num || err != api.OK {
				t.Errorf("%d %s %d = %v, %d", a, sign, b, got, err)
			}
		}
	}
}

func TestTextsAreTakenSignBySign(t *testing.T) {
	r := rand.New(rand.NewSource(2))
	some := func() string {
		var l []rune
		for range r.Intn(6) {
			l = append(l, []rune("aäb€\U0001f600b")[r.Intn(6)])
		}
		return string(l)
	}
	for range 3000 {
		s, u, n := some(), some(), r.Intn(9)-2
		l := []rune(s)
		k := max(0, min(n, len(l)))
		at := strings.Index(s, u)
		if at >= 0 {
			at = len([]rune(s[:at]))
		}
		for e, want := range map[string]api.Val{
			"left(t,n)": text(string(l[:k])), "right(t,n)": text(string(l[len(l)-k:])), "from(t,n)": text(string(l[k:])), "len(t)": num(len(l)), "find(t,u)": num(at), "t&u": text(s + u), "num(text(n))": num(n),
		} {
			if got, err := eval.Eval(parsed(t, e), thing(), values(n, 0, s, u)); !val.Same(got, want) || err != api.OK {
				t.Errorf("%s of %q, %q, %d: %v, %d", e, s, u, n, got, err)
			}
		}
	}
}

func TestWhatItIsWorthFitsItsTypeAndFieldsThatAreNotNamedMakeNoDifference(t *testing.T) {
	r := rand.New(rand.NewSource(3))
	c := thing()
	for range 5000 {
		e := anyTree(r, 4, r.Intn(2) == 0)
		if !expr.Right(e) {
			continue
		}
		typed, err := eval.Type(e, c)
		if err != api.OK {
			t.Fatalf("%v: %d", e, err)
		}
		vals := values(r.Intn(api.MaxNum), -r.Intn(100), strings.Repeat("ü", r.Intn(31)), "b")
		got, err := eval.Eval(e, c, vals)
		if err != api.OK || !val.Fits(got, typed) {
			t.Errorf("%v is worth %v, %d", e, got, err)
		}
		other := api.Class{Name: "other", Fields: append([]api.Field{{Name: "z" + strconv.Itoa(r.Intn(9)), Type: api.Type{Kind: api.Num}}}, c.Fields[:5]...)}
		if again, err := eval.Eval(e, other, append([]api.Val{num(r.Intn(9))}, vals[:5]...)); err != api.OK || !val.Same(again, got) {
			t.Errorf("%v is worth %v, with other fields %v, %d", e, got, again, err)
		}
	}
	if _, ok := class.Field(c, "n"); !ok {
		t.Error("there is no field n")
	}
}

// anyTree is a tree that tells a number, or a text.
func anyTree(r *rand.Rand, deep int, number bool) api.Expr {
	node := func(kind int, s string, kids ...bool) api.Expr {
		e := api.Expr{Kind: kind, S: s}
		for _, kid := range kids {
			e.Kids = append(e.Kids, anyTree(r, deep-1, kid))
		}
		return e
	}
	leaf := deep == 1 || r.Intn(5) == 0
	switch {
	case leaf && number:
		return []api.Expr{{Kind: api.ENum, N: r.Intn(api.MaxNum)}, {Kind: api.EField, S: "n"}, {Kind: api.EField, S: "m"}}[r.Intn(3)]
	case leaf:
		return []api.Expr{{Kind: api.EText, S: strings.Repeat("x", r.Intn(61))}, {Kind: api.EField, S: "t"}, {Kind: api.EField, S: "u"}}[r.Intn(3)]
	case number:
		same := r.Intn(2) == 0
		return []func() api.Expr{
			func() api.Expr { return node(api.EOp, string("+-*/%"[r.Intn(5)]), true, true) }, func() api.Expr {
				return node(api.EOp, []string{"=", "<>", "<", "<=", ">", ">="}[r.Intn(6)], same, same)
			},
			func() api.Expr { return node(api.EAhead, "-", true) }, func() api.Expr { return node(api.ECall, "len", false) }, func() api.Expr { return node(api.ECall, "find", false, false) },
			func() api.Expr { return node(api.ECall, "if", true, true, true) }, func() api.Expr { return node(api.ECall, "min", true, true) }, func() api.Expr { return node(api.ECall, "num", false) },
		}[r.Intn(8)]()
	}
	return []func() api.Expr{
		func() api.Expr { return node(api.EOp, "&", false, false) }, func() api.Expr { return node(api.ECall, []string{"left", "right", "from"}[r.Intn(3)], false, true) },
		func() api.Expr { return node(api.ECall, "text", true) }, func() api.Expr { return node(api.ECall, "if", true, false, false) },
	}[r.Intn(4)]()
}
