package change

import (
	"moraine/api"
	"moraine/class"
	"moraine/eval"
	"moraine/expr"
	"moraine/val"
)

// part is a field that comes, and what its value is, by the values that there were.
type part struct {
	field api.Field
	worth func(vals []api.Val) api.Val
}

// turn is what a change does: the fields between two places give way to others.
type turn struct {
	from, to int
	come     []part
}

// work is a change of a right class, well formed but for its expressions, with the place of the field that it names, if there is one.
type work struct {
	class api.Class
	ch    api.Change
	at    int
	has   bool
}

// turned is what a change does to a class, if it is right.
func turned(c api.Class, ch api.Change) (turn, bool) {
	if !class.Right(c) || !shaped(ch) {
		return turn{}, false
	}
	w := &work{class: c, ch: ch}
	w.at, w.has = class.Field(c, ch.Field)
	kinds := map[int]func() (turn, bool){
		api.ChAdd: w.add, api.ChDrop: w.drop, api.ChRename: w.rename, api.ChTurn: w.retype, api.ChSplit: w.split, api.ChIndex: w.index,
	}
	return kinds[ch.Kind]()
}

func (w *work) add() (turn, bool) {
	end := len(w.class.Fields)
	p, ok := w.told(w.ch.Name, w.ch.Expr)
	return turn{end, end, []part{p}}, ok && end < api.MaxFields && !w.taken(w.ch.Name)
}

func (w *work) drop() (turn, bool) { return w.instead() }

func (w *work) rename() (turn, bool) {
	if !w.has || w.taken(w.ch.Name) {
		return turn{}, false
	}
	p := w.kept()
	p.field.Name = w.ch.Name
	return w.instead(p)
}

func (w *work) retype() (turn, bool) {
	p, ok := w.told(w.ch.Field, w.ch.Expr)
	if !ok {
		return turn{}, false
	}
	return w.instead(p)
}

func (w *work) split() (turn, bool) {
	one, ok := w.told(w.ch.Name, w.ch.Expr)
	more, also := w.told(w.ch.More, w.ch.Other)
	if !ok || !also || len(w.class.Fields) >= api.MaxFields || w.ch.Name == w.ch.More {
		return turn{}, false
	}
	for _, name := range []string{w.ch.Name, w.ch.More} {
		if name != w.ch.Field && w.taken(name) {
			return turn{}, false
		}
	}
	return w.instead(one, more)
}

func (w *work) index() (turn, bool) {
	if !w.has {
		return turn{}, false
	}
	p := w.kept()
	p.field.Indexed = !p.field.Indexed
	t, ok := w.instead(p)
	// A class with that field alone tells whether it may be indexed.
	return t, ok && class.Right(api.Class{Name: w.class.Name, Fields: []api.Field{p.field}})
}

// instead lets parts come in the place of the field that the change names.
func (w *work) instead(come ...part) (turn, bool) {
	return turn{w.at, w.at + 1, come}, w.has
}

// kept is the field that the change names, with the value that it has.
func (w *work) kept() part {
	return part{w.class.Fields[w.at], func(vals []api.Val) api.Val { return vals[w.at] }}
}

func (w *work) taken(name string) bool {
	_, ok := class.Field(w.class, name)
	return ok
}

// told is a field of the change's type whose values an expression tells, if it can.
func (w *work) told(name, text string) (part, bool) {
	p := part{field: api.Field{Name: name, Type: w.ch.Type}}
	if text == "" {
		p.worth = func([]api.Val) api.Val { return val.Zero(w.ch.Type) }
		return p, true
	}
	e, _, err := expr.Parse(text)
	if err != api.OK {
		return part{}, false
	}
	t, err := eval.Type(e, w.class)
	p.worth = func(vals []api.Val) api.Val {
		v, _ := eval.Eval(e, w.class, vals)
		return v
	}
	return p, err == api.OK && t == w.ch.Type
}
