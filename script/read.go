package script

import (
	"strconv"
	"strings"

	"moraine/api"
	"moraine/val"
	"moraine/words"
)

// fault is what a reader panics with.
type fault struct{}

// reader reads a line, word by word.
type reader struct {
	s  string
	at int
}

// read is the act of a line; what of it is not as it would be written is not told.
func read(s string) (a api.Act, ok bool) {
	defer func() {
		if _, wrong := recover().(fault); wrong {
			a, ok = api.Act{}, false
		}
	}()
	r := &reader{s: s}
	a = pick(r, map[string]func() api.Act{
		"commit": r.commit, "collect": r.collect, "crash": r.crash, "rot": r.rot, "ask": r.ask, "cut": r.cut,
	})
	return a, !r.more()
}

// pick reads what the next word says.
func pick[T any](r *reader, known map[string]func() T) T {
	do, ok := known[r.word()]
	if !ok {
		panic(fault{})
	}
	return do()
}

// more tells whether there is something left.
func (r *reader) more() bool { return r.at < len(r.s) }

// blank goes on behind the blank that stands ahead of each word but the first one.
func (r *reader) blank() {
	if r.at > 0 {
		r.at++
	}
	if r.at > len(r.s) {
		panic(fault{})
	}
}

// word is the next one.
func (r *reader) word() string {
	r.blank()
	one, _, _ := strings.Cut(r.s[r.at:], " ")
	r.at += len(one)
	return one
}

// is tells whether the next word is one of some.
func (r *reader) is(some ...string) bool {
	ahead := *r
	if !ahead.more() {
		return false
	}
	next := ahead.word()
	for _, one := range some {
		if next == one {
			return true
		}
	}
	return false
}

func (r *reader) want(one string) {
	if r.word() != one {
		panic(fault{})
	}
}

func (r *reader) num() int {
	n, err := strconv.Atoi(r.word())
	if err != nil {
		panic(fault{})
	}
	return n
}

func (r *reader) quoted() string {
	r.blank()
	s, to, ok := words.Unquote(r.s, r.at)
	if !ok {
		panic(fault{})
	}
	r.at = to
	return s
}

func (r *reader) val() api.Val {
	r.blank()
	v, to, err := val.Read(r.s, r.at)
	if err != api.OK {
		panic(fault{})
	}
	r.at = to
	return v
}

// typed is the type that is written so.
func typed(s string) api.Type {
	kind, of, _ := strings.Cut(s, ".")
	return api.Type{Kind: words.KindOf(kind), Of: words.KindOf(of)}
}

func (r *reader) commit() api.Act {
	a := api.Act{Kind: api.ActCommit}
	for r.more() {
		if len(a.Txns) > 0 {
			r.want("|")
		}
		t := api.Txn{Base: r.num()}
		r.want(":")
		for r.more() && !r.is("|") {
			if len(t.Ops) > 0 {
				r.want(";")
			}
			t.Ops = append(t.Ops, r.op())
		}
		a.Txns = append(a.Txns, t)
	}
	return a
}

func (r *reader) collect() api.Act { return api.Act{Kind: api.ActCollect, N: r.num()} }

func (r *reader) crash() api.Act {
	a := api.Act{Kind: api.ActCrash}
	for r.more() {
		a.Keep = append(a.Keep, r.num())
	}
	return a
}

func (r *reader) rot() api.Act {
	return api.Act{Kind: api.ActRot, N: r.num(), At: r.num(), Mask: r.num()}
}

func (r *reader) ask() api.Act { return api.Act{Kind: api.ActAsk, S: r.quoted()} }

func (r *reader) cut() api.Act { return api.Act{Kind: api.ActCut, N: r.num()} }

func (r *reader) op() api.Op {
	named := func(kind int) func() api.Op {
		return func() api.Op { return api.Op{Kind: kind, Name: r.word()} }
	}
	return pick(r, map[string]func() api.Op{
		"new": r.makeNew, "set": r.set, "root": r.root, "unroot": named(api.OpNoRoot), "class": r.class, "change": r.change,
		"read": r.readObj, "see": named(api.OpReadRoot), "snap": named(api.OpSnap), "unsnap": named(api.OpNoSnap),
	})
}

// ends tells whether an operation has no more words.
func (r *reader) ends() bool { return !r.more() || r.is(";", "|") }

func (r *reader) makeNew() api.Op {
	o := api.Op{Kind: api.OpNew, Class: r.word()}
	for !r.ends() {
		o.Vals = append(o.Vals, r.val())
	}
	return o
}

func (r *reader) set() api.Op {
	return api.Op{Kind: api.OpSet, ID: r.num(), Name: r.word(), Val: r.val()}
}

func (r *reader) root() api.Op { return api.Op{Kind: api.OpRoot, Name: r.word(), ID: r.num()} }

func (r *reader) readObj() api.Op { return api.Op{Kind: api.OpRead, ID: r.num()} }

func (r *reader) class() api.Op {
	o := api.Op{Kind: api.OpClass, Def: api.Class{Name: r.word()}}
	for !r.ends() {
		name, rest, _ := strings.Cut(r.word(), ":")
		of, indexed := strings.CutSuffix(rest, "!")
		o.Def.Fields = append(o.Def.Fields, api.Field{Name: name, Type: typed(of), Indexed: indexed})
	}
	return o
}

func (r *reader) change() api.Op {
	o := api.Op{Kind: api.OpChange, Class: r.word()}
	o.Change = pick(r, map[string]func() api.Change{
		"add": r.add, "drop": r.drop, "rename": r.rename, "turn": r.turn, "split": r.split, "index": r.index,
	})
	return o
}

func (r *reader) add() api.Change {
	return api.Change{Kind: api.ChAdd, Name: r.word(), Type: typed(r.word()), Expr: r.quoted()}
}

func (r *reader) drop() api.Change { return api.Change{Kind: api.ChDrop, Field: r.word()} }

func (r *reader) rename() api.Change {
	return api.Change{Kind: api.ChRename, Field: r.word(), Name: r.word()}
}

func (r *reader) turn() api.Change {
	return api.Change{Kind: api.ChTurn, Field: r.word(), Type: typed(r.word()), Expr: r.quoted()}
}

func (r *reader) split() api.Change {
	return api.Change{Kind: api.ChSplit, Field: r.word(), Name: r.word(), More: r.word(), Type: typed(r.word()), Expr: r.quoted(), Other: r.quoted()}
}

func (r *reader) index() api.Change { return api.Change{Kind: api.ChIndex, Field: r.word()} }
