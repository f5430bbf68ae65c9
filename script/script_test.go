package script_test

import (
	"math"
	"slices"
	"strings"
	"testing"

	"moraine/api"
	"moraine/script"
)

func num(n int) api.Val { return api.Val{Kind: api.Num, N: n} }

func commit(txns ...api.Txn) api.Act { return api.Act{Kind: api.ActCommit, Txns: txns} }

func txn(base int, ops ...api.Op) api.Txn { return api.Txn{Base: base, Ops: ops} }

func class(name string, fields ...api.Field) api.Op {
	return api.Op{Kind: api.OpClass, Def: api.Class{Name: name, Fields: fields}}
}

func field(name string, kind, of int, indexed bool) api.Field {
	return api.Field{Name: name, Type: api.Type{Kind: kind, Of: of}, Indexed: indexed}
}

func turn(ch api.Change) api.Act {
	return commit(txn(0, api.Op{Kind: api.OpChange, Class: "c", Change: ch}))
}

// lines are right acts by their lines.
func lines() map[string]api.Act {
	numType, listType := api.Type{Kind: api.Num}, api.Type{Kind: api.List, Of: api.Weak}
	text := api.Val{Kind: api.Text, S: `a ; | "\`}
	list := api.Val{Kind: api.List, L: []api.Val{num(1), {}, {Kind: api.Ref, N: 7}}}
	return map[string]api.Act{
		"commit": commit(), "commit 0 :": commit(txn(0)), "commit 0 : | 1000000 :": commit(txn(0), txn(1000000)),
		"commit 0 : class c a:num! ; new c 5 ; root home -1":                                 commit(txn(0, class("c", field("a", api.Num, 0, true)), api.Op{Kind: api.OpNew, Class: "c", Vals: []api.Val{num(5)}}, api.Op{Kind: api.OpRoot, Name: "home", ID: -1})),
		"commit 3 : read 5 | 2 : see a ; unroot b ; snap c ; unsnap d":                       commit(txn(3, api.Op{Kind: api.OpRead, ID: 5}), txn(2, api.Op{Kind: api.OpReadRoot, Name: "a"}, api.Op{Kind: api.OpNoRoot, Name: "b"}, api.Op{Kind: api.OpSnap, Name: "c"}, api.Op{Kind: api.OpNoSnap, Name: "d"})),
		`commit 0 : new c "a ; | \"\\" - [1 - @7] ; set -2 n "a ; | \"\\" | 0 : new new`:     commit(txn(0, api.Op{Kind: api.OpNew, Class: "c", Vals: []api.Val{text, {}, list}}, api.Op{Kind: api.OpSet, ID: -2, Name: "n", Val: text}), txn(0, api.Op{Kind: api.OpNew, Class: "new"})),
		"commit 0 : set 5 a - ; set 6 b [] ; set 7 c ~100000":                                commit(txn(0, api.Op{Kind: api.OpSet, ID: 5, Name: "a"}, api.Op{Kind: api.OpSet, ID: 6, Name: "b", Val: api.Val{Kind: api.List}}, api.Op{Kind: api.OpSet, ID: 7, Name: "c", Val: api.Val{Kind: api.Weak, N: api.MaxID}})),
		"commit 0 : class c | 0 : class d a:num b:text! c:ref d:weak e:list.num f:list.weak": commit(txn(0, class("c")), txn(0, class("d", field("a", api.Num, 0, false), field("b", api.Text, 0, true), field("c", api.Ref, 0, false), field("d", api.Weak, 0, false), field("e", api.List, api.Num, false), field("f", api.List, api.Weak, false)))),
		`commit 0 : change c add x num "a * 2"`:                                              turn(api.Change{Kind: api.ChAdd, Name: "x", Type: numType, Expr: "a * 2"}),
		`commit 0 : change c add x list.weak ""`:                                             turn(api.Change{Kind: api.ChAdd, Name: "x", Type: listType}),
		"commit 0 : change c drop x":                                                         turn(api.Change{Kind: api.ChDrop, Field: "x"}),
		"commit 0 : change c rename x y":                                                     turn(api.Change{Kind: api.ChRename, Field: "x", Name: "y"}),
		`commit 0 : change c turn x num "len(\"\\\"\")"`:                                     turn(api.Change{Kind: api.ChTurn, Field: "x", Type: numType, Expr: `len("\"")`}),
		`commit 0 : change c split x y z num "a" "left(b, 2) & \"c\""`:                       turn(api.Change{Kind: api.ChSplit, Field: "x", Name: "y", More: "z", Type: numType, Expr: "a", Other: `left(b, 2) & "c"`}),
		"commit 0 : change c index x":                                                        turn(api.Change{Kind: api.ChIndex, Field: "x"}),
		"collect 0":                                                                          {Kind: api.ActCollect}, "collect 1000": {Kind: api.ActCollect, N: 1000},
		"crash": {Kind: api.ActCrash}, "crash 2 0": {Kind: api.ActCrash, Keep: []int{2, 0}}, "crash 767 767": {Kind: api.ActCrash, Keep: []int{767, 767}},
		"rot 0 0 1": {Kind: api.ActRot, Mask: 1}, "rot 767 63 255": {Kind: api.ActRot, N: 767, At: 63, Mask: 255},
		`ask ""`: {Kind: api.ActAsk}, `ask "all c where a = \"\\\" \""`: {Kind: api.ActAsk, S: `all c where a = "\" "`}, `ask "` + strings.Repeat("x", 200) + `"`: {Kind: api.ActAsk, S: strings.Repeat("x", 200)},
		"cut 0": {Kind: api.ActCut}, "cut 1000": {Kind: api.ActCut, N: 1000},
	}
}

func wrongs() []api.Act {
	all := []api.Act{
		{}, {Kind: 7}, {Kind: -1}, commit(make([]api.Txn, 9)...), commit(txn(-1)), commit(txn(1000001)), commit(txn(0, api.Op{})), commit(txn(0, slices.Repeat([]api.Op{{Kind: api.OpRead, ID: 1}}, 21)...)), commit(txn(0, api.Op{Kind: api.OpRead, ID: 0})),
		{Kind: api.ActCollect, N: -1}, {Kind: api.ActCollect, N: 1001}, {Kind: api.ActCrash, Keep: []int{-1}}, {Kind: api.ActCrash, Keep: []int{1, 768}}, {Kind: api.ActCrash, Keep: make([]int, 41)}, {Kind: api.ActRot}, {Kind: api.ActRot, Mask: 256}, {Kind: api.ActRot, Mask: -1}, {Kind: api.ActRot, N: -1, Mask: 1}, {Kind: api.ActRot, N: 768, Mask: 1}, {Kind: api.ActRot, At: 64, Mask: 1}, {Kind: api.ActRot, At: -1, Mask: 1},
		{Kind: api.ActAsk, S: strings.Repeat("x", 201)}, {Kind: api.ActAsk, S: "\n"}, {Kind: api.ActAsk, S: "\xff"}, {Kind: api.ActCut, N: -1}, {Kind: api.ActCut, N: 1001}, {Kind: api.ActCut, N: math.MinInt},
	}
	has := map[int]string{api.ActCommit: "t", api.ActCollect: "n", api.ActCrash: "k", api.ActRot: "nam", api.ActAsk: "s", api.ActCut: "n"}
	for kind, fields := range has {
		for _, f := range "namskt" {
			a := api.Act{Kind: kind}
			if kind == api.ActRot {
				a.Mask = 1
			}
			switch f {
			case 'n':
				a.N = 1
			case 'a':
				a.At = 1
			case 'm':
				a.Mask = 1
			case 's':
				a.S = "x"
			case 'k':
				a.Keep = []int{1}
			case 't':
				a.Txns = []api.Txn{{}}
			}
			if !strings.ContainsRune(fields, f) {
				all = append(all, a)
			}
		}
	}
	return all
}

func TestRight(t *testing.T) {
	for s, a := range lines() {
		if !script.Right(a) {
			t.Errorf("%s is not right", s)
		}
	}
	for i, a := range wrongs() {
		if script.Right(a) {
			t.Errorf("wrong act %d is right: %v", i, a)
		}
		if s, err := script.Print([]api.Act{{Kind: api.ActCut}, a}); s != "" || err != api.ErrScript {
			t.Errorf("Print of wrong act %d: %s, %d", i, s, err)
		}
	}
	for _, a := range []api.Act{commit(make([]api.Txn, 8)...), commit(txn(0, slices.Repeat([]api.Op{{Kind: api.OpRead, ID: 1}}, 20)...)), {Kind: api.ActCrash, Keep: make([]int, 40)}} {
		if !script.Right(a) {
			t.Errorf("%v is not right", a)
		}
	}
}

func TestSame(t *testing.T) {
	all := wrongs()
	for _, a := range lines() {
		all = append(all, a)
	}
	for i, a := range all {
		for j, b := range all {
			if same := script.Same(a, b); same != (i == j) && !(same && script.Same(b, a) && a.Kind == b.Kind && i < len(wrongs()) && j < len(wrongs())) {
				t.Errorf("Same(%v, %v) = %t", a, b, same)
			}
		}
	}
	if !script.Same(api.Act{Keep: []int{}, Txns: []api.Txn{{Ops: []api.Op{}}}}, api.Act{Txns: []api.Txn{{}}}) || script.Same(commit(txn(0)), commit(txn(1))) || script.Same(commit(txn(0)), commit(txn(0), txn(0))) || script.Same(api.Act{Keep: []int{1, 2}}, api.Act{Keep: []int{2, 1}}) {
		t.Error("Same of lists")
	}
}

func TestPrintAndParse(t *testing.T) {
	var acts []api.Act
	var text string
	for s, a := range lines() {
		if got, err := script.Print([]api.Act{a}); got != s+"\n" || err != api.OK {
			t.Errorf("Print of %s: %s, %d", s, got, err)
		}
		if got, at, err := script.Parse(s + "\n"); len(got) != 1 || !script.Same(got[0], a) || at != 0 || err != api.OK {
			t.Errorf("Parse(%s): %v, %d, %d", s, got, at, err)
		}
		acts, text = append(acts, a), text+s+"\n"
	}
	if got, at, err := script.Parse(text); !slices.EqualFunc(got, acts, script.Same) || at != 0 || err != api.OK {
		t.Errorf("Parse of all: %d acts, %d, %d", len(got), at, err)
	}
	if got, at, err := script.Parse(""); len(got) > 0 || at != 0 || err != api.OK {
		t.Errorf("Parse of nothing: %v, %d, %d", got, at, err)
	}
	if got, err := script.Print(nil); got != "" || err != api.OK {
		t.Errorf("Print of nothing: %s, %d", got, err)
	}
}

func TestHowManyActs(t *testing.T) {
	forty := slices.Repeat([]api.Act{{Kind: api.ActCut}}, 40)
	text, err := script.Print(forty)
	if len(text) != 40*6 || err != api.OK {
		t.Errorf("Print of 40: %d bytes, %d", len(text), err)
	}
	if got, _, err := script.Parse(text); len(got) != 40 || err != api.OK {
		t.Errorf("Parse of 40: %d, %d", len(got), err)
	}
	if got, err := script.Print(append(forty, api.Act{})); got != "" || err != api.ErrScript {
		t.Errorf("Print of 41: %d bytes, %d", len(got), err)
	}
	for _, more := range []string{"cut 0\n", "x", "\n"} {
		if got, at, err := script.Parse(text + more); len(got) > 0 || at != 40 || err != api.ErrScript {
			t.Errorf("Parse of 41: %d, %d, %d", len(got), at, err)
		}
	}
}

func TestParseTellsTheFirstLineThatIsNone(t *testing.T) {
	for _, s := range []string{
		"", " ", "x", "cut", "cut ", "cut x", "cut 01", "cut -1", "cut +1", "cut 1001", "cut 1 ", " cut 1", "cut  1", "cut 1 2", "Cut 1", "cut\t1", "cut 99999999999999999999", "collect", "collect 1001", "crash ", "crash x", "crash 768", "crash 1  2", "crash -1", "crash" + strings.Repeat(" 1", 41), "rot 1 2", "rot 1 2 0", "rot 1 64 1", "rot 768 1 1", "rot 1 2 256", "rot 1 2 3 4",
		"ask", "ask x", `ask "x`, `ask "x" `, `ask "\x"`, `ask ""x`, "ask \"\xff\"", "ask \"\x01\"", `ask "` + strings.Repeat("x", 201) + `"`,
		"commit ", "commit 0", "commit 0:", "commit 0 : ", "commit x :", "commit 0 : read", "commit 0 : read 0", "commit 0 : read 5 ;", "commit 0 : ; read 5", "commit 0 : read 5 ; ; read 5", "commit 0 : read 5 |", "commit | 0 :", "commit 0 : | | 0 :", "commit 0 : read 5 read 5", "commit 1000001 :", "commit -1 :", "commit 0 : see A", "commit 0 : see", "commit 0 : see a b", "commit 0 : unknown a", "commit" + strings.Repeat(" 0 : |", 8) + " 0 :", "commit 0 : read 1" + strings.Repeat(" ; read 1", 20),
		"commit 0 : new", "commit 0 : new C", "commit 0 : new c x", "commit 0 : new c 5x", "commit 0 : new c 5  5", "commit 0 : new c 05", "commit 0 : new c @0", `commit 0 : new c "a`, "commit 0 : set 5 a", "commit 0 : set a 5 5", "commit 0 : set 0 a 5", "commit 0 : set 5 a 5 5", "commit 0 : root a", "commit 0 : root a 0", "commit 0 : root a -21", "commit 0 : root a @5",
		"commit 0 : class", "commit 0 : class C", "commit 0 : class c a", "commit 0 : class c a:", "commit 0 : class c a:nil", "commit 0 : class c a:num!!", "commit 0 : class c a:weak!", "commit 0 : class c a:list", "commit 0 : class c a:list.list", "commit 0 : class c a:num.num", "commit 0 : class c a:list.num.num", "commit 0 : class c a: num", "commit 0 : class c a:num a:num", "commit 0 : class c :num",
		"commit 0 : change c", "commit 0 : change c drop", "commit 0 : change C drop x", "commit 0 : change c drop X", "commit 0 : change c lose x", "commit 0 : change c add x num", `commit 0 : change c add x num "+"`, "commit 0 : change c add x num a", `commit 0 : change c add x list ""`, `commit 0 : change c turn x num "" ""`, `commit 0 : change c split x y z num ""`, "commit 0 : change c rename x", "commit 0 : change c index x y",
	} {
		for at, ahead := range []string{"", "cut 1\n", "cut 1\ncollect 2\n"} {
			if got, to, err := script.Parse(ahead + s + "\n" + "nonsense\n"); len(got) > 0 || to != at || err != api.ErrScript {
				t.Errorf("Parse of %q: %v, %d, %d", s, got, to, err)
			}
		}
	}
	for s, want := range map[string]int{"cut 1": 0, "cut 1\ncut 2": 1, "\n": 0, "cut 1\n\n": 1, "cut 1\n\ncut 1\n": 1, "cut 1\r\n": 0} {
		if got, at, err := script.Parse(s); len(got) > 0 || at != want || err != api.ErrScript {
			t.Errorf("Parse of %q: %v, %d, %d", s, got, at, err)
		}
	}
}

func FuzzParse(f *testing.F) {
	for s := range lines() {
		f.Add(s + "\n")
	}
	f.Fuzz(func(t *testing.T, s string) {
		l, _, err := script.Parse(s)
		if err != api.OK {
			return
		}
		if back, err := script.Print(l); back != s || err != api.OK {
			t.Errorf("%q comes back as %q, %d", s, back, err)
		}
	})
}
