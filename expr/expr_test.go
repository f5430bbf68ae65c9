package expr_test

import (
	"math"
	"math/rand"
	"strconv"
	"strings"
	"testing"

	"moraine/api"
	"moraine/expr"
)

func num(n int) api.Expr      { return api.Expr{Kind: api.ENum, N: n} }
func text(s string) api.Expr  { return api.Expr{Kind: api.EText, S: s} }
func field(s string) api.Expr { return api.Expr{Kind: api.EField, S: s} }
func op(s string, a, b api.Expr) api.Expr {
	return api.Expr{Kind: api.EOp, S: s, Kids: []api.Expr{a, b}}
}
func ahead(a api.Expr) api.Expr                { return api.Expr{Kind: api.EAhead, S: "-", Kids: []api.Expr{a}} }
func call(s string, kids ...api.Expr) api.Expr { return api.Expr{Kind: api.ECall, S: s, Kids: kids} }
func nested(n int, e api.Expr) api.Expr {
	for range n {
		e = ahead(e)
	}
	return e
}

func TestParse(t *testing.T) {
	a, b, c := field("a"), field("b"), field("c")
	for s, want := range map[string]api.Expr{
		"5": num(5), " 007 ": num(7), "1000000000000000": num(api.MaxNum), `"a\"b\\ü"`: text(`a"b\ü`), `""`: text(""), "a": a, "a_9": field("a_9"), "len": field("len"), "if": field("if"),
		"a+b*2": op("+", a, op("*", b, num(2))), "a*b+2": op("+", op("*", a, b), num(2)), "(a+b)*-c": op("*", op("+", a, b), ahead(c)),
		"a-b-c": op("-", op("-", a, b), c), "a-(b-c)": op("-", a, op("-", b, c)), "a&b+c": op("&", a, op("+", b, c)), "a&b&c": op("&", op("&", a, b), c),
		"a<>b&c": op("<>", a, op("&", b, c)), "a<=b": op("<=", a, b), "a>=b": op(">=", a, b), "a< =": {}, "a=b=c": op("=", op("=", a, b), c), "a<b>c": op(">", op("<", a, b), c),
		"a/b%c*a": op("*", op("%", op("/", a, b), c), a), "-a*b": op("*", ahead(a), b), "- -a": ahead(ahead(a)), "--5": ahead(ahead(num(5))), "-(a+b)": ahead(op("+", a, b)),
		"((a))": a, "len(a)": call("len", a), "left ( a , 2 )": call("left", a, num(2)), "if(a,b,c)": call("if", a, b, c), "max(min(a,b),-c)": call("max", call("min", a, b), ahead(c)),
		`find(a,"(")&text(1)`: op("&", call("find", a, text("(")), call("text", num(1))), "right(a,1)": call("right", a, num(1)), "from(a,1)": call("from", a, num(1)), "num(a)": call("num", a),
	} {
		e, at, err := expr.Parse(s)
		if want.Kind == 0 {
			if err != api.ErrExpr {
				t.Errorf("Parse(%s): %d", s, err)
			}
			continue
		}
		if !expr.Same(e, want) || at != 0 || err != api.OK {
			t.Errorf("Parse(%s): %v, %d, %d", s, e, at, err)
		}
	}
}

func TestParseTellsWhereTheFaultIs(t *testing.T) {
	for s, want := range map[string]int{
		"": 0, "  ": 2, "left(a)": 6, "left(a,": 7, "left(a,b,c)": 8, "foo(a)": 3, "foo (a)": 4, "a b": 2, "1a": 1, "a+": 2, "a+ ": 3, "a + * b": 4, ")": 0, "(a": 2, "(a))": 3, "a,b": 1,
		"len()": 4, "-": 1, "a - ": 4, "a=<b": 2, "(a,b)": 2, "len": -1, "if(a,b": 6, "a\"b\"": 1, `a "+" b`: 2, `a "*"`: 2, "5(": 1, "()": 1, `"a"(`: 3,
		// What is no piece is told ahead of what is none of the language.
		") $": 2, "a b A": 4, "A": 0, "a!": 1, "a\n": 1, "é": 0, `a & "b`: 4, `"\n"`: 0, "\"\x01\"": 0, "\"\xff\"": 0, `a + "` + strings.Repeat("x", 61) + `"`: 4,
		"1000000000000001": 0, "2+" + strings.Repeat("9", 100): 2, "1+" + strings.Repeat("a", 21): 2, "_a": 0, "a.b": 1,
		strings.Repeat(" ", 200): 200, strings.Repeat("a", 201): 200, strings.Repeat("$", 201): 200,
	} {
		e, at, err := expr.Parse(s)
		if want < 0 {
			if err != api.OK {
				t.Errorf("Parse(%q): %d", s, err)
			}
			continue
		}
		if !expr.Same(e, api.Expr{}) || at != want || err != api.ErrExpr {
			t.Errorf("Parse(%q): %v, %d, %d, want %d", s, e, at, err, want)
		}
	}
}

func TestParseTellsWhatIsTooDeepOrTooLarge(t *testing.T) {
	for s, want := range map[string]api.Errno{
		strings.Repeat("-", 7) + "a": api.OK, strings.Repeat("-", 8) + "a": api.ErrDeep, strings.Repeat("(", 90) + "a" + strings.Repeat(")", 90): api.OK,
		"a" + strings.Repeat("+a", 7): api.OK, "a" + strings.Repeat("+a", 8): api.ErrDeep, strings.Repeat("(", 199) + "a": api.ErrExpr,
		wide(39): api.OK, wide(40): api.OK, wide(41): api.ErrDeep, strings.Repeat("-", 199) + "a": api.ErrDeep,
		strings.Repeat("9", 15) + strings.Repeat(" ", 185): api.OK, strings.Repeat("0", 199) + "1": api.OK,
	} {
		e, at, err := expr.Parse(s)
		if err != want || err == api.ErrDeep && (at != 0 || !expr.Same(e, api.Expr{})) {
			t.Errorf("Parse(%s): %v, %d, %d, want %d", s, e, at, err, want)
		}
	}
}

// wide is an expression of that many nodes that is not deep.
func wide(nodes int) string {
	if nodes == 1 {
		return "a"
	}
	if nodes == 2 {
		return "-a"
	}
	left := (nodes - 1) / 2
	return "(" + wide(left) + ")+(" + wide(nodes-1-left) + ")"
}

func rights() []api.Expr {
	a := field("a")
	return []api.Expr{
		num(0), num(api.MaxNum), text(""), text(strings.Repeat("ü", 30)), field(strings.Repeat("z", 20)), nested(7, a),
		op("=", a, a), op("<>", a, a), op("<", a, a), op("<=", a, a), op(">", a, a), op(">=", a, a), op("&", a, a), op("+", a, a), op("-", a, a), op("*", a, a), op("/", a, a), op("%", a, a),
		call("len", a), call("text", a), call("num", a), call("left", a, a), call("right", a, a), call("from", a, a), call("find", a, a), call("min", a, a), call("max", a, a), call("if", a, a, a),
	}
}

func wrongs() []api.Expr {
	a := field("a")
	return []api.Expr{
		{}, {Kind: 7}, {Kind: -1}, num(-1), num(api.MaxNum + 1), num(math.MinInt), text(strings.Repeat("x", 61)), text("\x7f"), text("\xff"), field(""), field("A"), field(strings.Repeat("z", 21)),
		{Kind: api.ENum, S: "a"}, {Kind: api.ENum, Kids: []api.Expr{a}}, {Kind: api.EText, N: 1}, {Kind: api.EText, Kids: []api.Expr{a}}, {Kind: api.EField, S: "a", N: 1}, {Kind: api.EField, S: "a", Kids: []api.Expr{a}},
		op("(", a, a), op("", a, a), op("--", a, a), {Kind: api.EOp, S: "+", Kids: []api.Expr{a}}, {Kind: api.EOp, S: "+", Kids: []api.Expr{a, a, a}}, {Kind: api.EOp, S: "+", N: 1, Kids: []api.Expr{a, a}},
		{Kind: api.EAhead, S: "+", Kids: []api.Expr{a}}, {Kind: api.EAhead, Kids: []api.Expr{a}}, {Kind: api.EAhead, S: "-"}, {Kind: api.EAhead, S: "-", Kids: []api.Expr{a, a}}, {Kind: api.EAhead, S: "-", N: 2, Kids: []api.Expr{a}},
		call("foo", a), call("foo"), call("len"), call("len", a, a), call("if", a, a), call("", a), {Kind: api.ECall, S: "len", N: 1, Kids: []api.Expr{a}},
		op("+", a, num(-1)), ahead(api.Expr{}), nested(8, a),
	}
}

func TestRight(t *testing.T) {
	for _, e := range rights() {
		if !expr.Right(e) {
			t.Errorf("%v is not right", e)
		}
	}
	for _, e := range wrongs() {
		if expr.Right(e) {
			t.Errorf("%v is right", e)
		}
		if s, err := expr.Print(e); s != "" || err != api.ErrExpr {
			t.Errorf("Print(%v): %s, %d", e, s, err)
		}
	}
	if expr.Right(nested(50000, field("a"))) {
		t.Error("what is very deep is right")
	}
	shared := field("a")
	for range 60 {
		shared = op("+", shared, shared)
	}
	if expr.Right(shared) {
		t.Error("what is very large is right")
	}
}

func TestSame(t *testing.T) {
	all := append(rights(), wrongs()...)
	for i, a := range all {
		for j, b := range all {
			if expr.Same(a, b) != (i == j) {
				t.Errorf("Same(%v, %v) = %t", a, b, i != j)
			}
		}
	}
	if !expr.Same(num(1), api.Expr{Kind: api.ENum, N: 1, Kids: []api.Expr{}}) {
		t.Error("no kids are unlike an empty list of them")
	}
}

func TestPrint(t *testing.T) {
	for s, want := range map[string]string{
		"a+b*2": "a + b * 2", "(a+b)*-c": "(a + b) * -c", "a-(b-c)": "a - (b - c)", "(a-b)-c": "a - b - c", "(a*b)+c": "a * b + c", "a*(b/c)": "a * (b / c)",
		"-(a)": "-a", "-(-a)": "--a", "-(a*b)": "-(a * b)", "(-a)*b": "-a * b", "a--b": "a - -b", "left(name,2)": "left(name, 2)", "if((a=b),(c),-(1))": "if(a = b, c, -1)",
		"(a&b)=c": "a & b = c", "a&(b=c)": "a & (b = c)", "(a=b)=c": "a = b = c", "a=(b<c)": "a = (b < c)", `"\"\\"`: `"\"\\"`, "007": "7", "(len(a)+1)%2": "(len(a) + 1) % 2",
	} {
		e, _, _ := expr.Parse(s)
		if got, err := expr.Print(e); got != want || err != api.OK {
			t.Errorf("Print of %s: %s, %d", s, got, err)
		}
	}
}

// anyTree is a right tree, not deeper than that.
func anyTree(r *rand.Rand, deep int) api.Expr {
	kind := r.Intn(6)
	if deep == 1 {
		kind = r.Intn(3)
	}
	kid := func() api.Expr { return anyTree(r, deep-1) }
	switch kind {
	case 0:
		return num(r.Intn(100))
	case 1:
		return text([]string{"", `"`, `\`, "x y", "ü", "("}[r.Intn(6)])
	case 2:
		return field([]string{"a", "b", "len", "if"}[r.Intn(4)])
	case 3:
		return ahead(kid())
	case 4:
		return []func() api.Expr{
			func() api.Expr { return call("len", kid()) }, func() api.Expr { return call("left", kid(), kid()) }, func() api.Expr { return call("if", kid(), kid(), kid()) },
		}[r.Intn(3)]()
	}
	return op([]string{"=", "<>", "<", "<=", ">", ">=", "&", "+", "-", "*", "/", "%"}[r.Intn(12)], kid(), kid())
}

func TestWhatIsPrintedIsReadAsThatTree(t *testing.T) {
	r := rand.New(rand.NewSource(5))
	for range 20000 {
		e := anyTree(r, 1+r.Intn(5))
		if !expr.Right(e) {
			continue
		}
		s, err := expr.Print(e)
		if err != api.OK {
			t.Fatalf("Print(%v): %d", e, err)
		}
		got, at, err := expr.Parse(s)
		if len(s) > api.MaxInput {
			if err != api.ErrExpr || at != api.MaxInput {
				t.Errorf("Parse of %d bytes: %d, %d", len(s), at, err)
			}
		} else if !expr.Same(got, e) {
			t.Errorf("%v is %s, and comes back as %v, %d, %d", e, s, got, at, err)
		}
		for i := range len(s) {
			if s[i] == '(' && len(s) <= api.MaxInput {
				checkBracketsAreNeeded(t, s, i, e)
			}
		}
	}
}

// checkBracketsAreNeeded takes the brackets away that begin there: no call's, they make a difference.
func checkBracketsAreNeeded(t *testing.T, s string, open int, e api.Expr) {
	if open > 0 && s[open-1] >= 'a' && s[open-1] <= 'z' || strings.Contains(s, `"`) {
		return
	}
	deep, end := 0, open
	for ; end < len(s); end++ {
		if s[end] == '(' {
			deep++
		} else if s[end] == ')' {
			if deep--; deep == 0 {
				break
			}
		}
	}
	bare := s[:open] + s[open+1:end] + s[end+1:]
	if got, _, err := expr.Parse(bare); err == api.OK && expr.Same(got, e) {
		t.Errorf("%s needs no brackets at %d", s, open)
	}
}

// item is a rule that was begun, of which so many parts were found, from that piece on.
type item struct {
	rule, dot, from int
}

// rules are the language's: a part's name is a rule's, or a piece.
var rules = func() [][]string {
	all := [][]string{{"E", "T"}, {"T", "5"}, {"T", `"t"`}, {"T", "a"}, {"T", "len"}, {"T", "if"}, {"T", "-", "T"}, {"T", "(", "E", ")"},
		{"T", "len", "(", "E", ")"}, {"T", "left", "(", "E", ",", "E", ")"}, {"T", "left"}, {"T", "if", "(", "E", ",", "E", ",", "E", ")"}}
	for _, sign := range []string{"=", "<>", "&", "+", "-", "*"} {
		all = append(all, []string{"E", "E", sign, "E"})
	}
	return all
}()

// firstFault is the number of the first piece with which those up to it begin no expression, or how many there are, if they are none, or -1: a chart of all rules that may have been begun.
func firstFault(list []string) int {
	var chart []map[item]bool
	set := map[item]bool{}
	for i, rule := range rules {
		if rule[0] == "E" {
			set[item{i, 1, 0}] = true
		}
	}
	for k := 0; ; k++ {
		chart = append(chart, set)
		for grown := true; grown; {
			before := len(set)
			for x := range set {
				rule := rules[x.rule]
				if x.dot == len(rule) {
					for y := range chart[x.from] {
						if other := rules[y.rule]; y.dot < len(other) && other[y.dot] == rule[0] {
							set[item{y.rule, y.dot + 1, y.from}] = true
						}
					}
					continue
				}
				for i, other := range rules {
					if other[0] == rule[x.dot] {
						set[item{i, 1, k}] = true
					}
				}
			}
			grown = len(set) > before
		}
		if len(set) == 0 {
			return k - 1
		}
		if k == len(list) {
			break
		}
		next := map[item]bool{}
		for x := range set {
			if rule := rules[x.rule]; x.dot < len(rule) && rule[x.dot] == list[k] {
				next[item{x.rule, x.dot + 1, x.from}] = true
			}
		}
		if len(next) == 0 {
			return k
		}
		set = next
	}
	for x := range set {
		if rules[x.rule][0] == "E" && x.dot == len(rules[x.rule]) && x.from == 0 {
			return -1
		}
	}
	return len(list)
}

func TestFaultsAreWhereNoExpressionGoesOn(t *testing.T) {
	words := []string{"5", `"t"`, "a", "a", "len", "left", "if", "(", "(", ")", ")", ",", ",", "=", "<>", "&", "+", "-", "*"}
	r := rand.New(rand.NewSource(6))
	for range 20000 {
		var list []string
		var places []int
		s := ""
		for range r.Intn(12) {
			list = append(list, words[r.Intn(len(words))])
			places = append(places, len(s))
			s += list[len(list)-1] + strings.Repeat(" ", 1+r.Intn(2))
		}
		places = append(places, len(s))
		want := firstFault(list)
		_, at, err := expr.Parse(s)
		if want < 0 && err != api.OK && err != api.ErrDeep || want >= 0 && (err != api.ErrExpr || at != places[want]) {
			t.Errorf("Parse(%s): %d, %d, want piece %s", s, at, err, strconv.Itoa(want))
		}
	}
}
