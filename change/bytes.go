package change

import (
	"strings"

	"moraine/api"
	"moraine/class"
	"moraine/expr"
	"moraine/parts"
	"moraine/wire"
	"moraine/words"
)

// need tells what a change of some kind needs.
type need struct{ field, name, more, typed, other bool }

func needs(kind int) (need, bool) {
	switch kind {
	case api.ChAdd:
		return need{name: true, typed: true}, true
	case api.ChDrop, api.ChIndex:
		return need{field: true}, true
	case api.ChRename:
		return need{field: true, name: true}, true
	case api.ChTurn:
		return need{field: true, typed: true}, true
	case api.ChSplit:
		return need{field: true, name: true, more: true, typed: true, other: true}, true
	}
	return need{}, false
}

// wellFormed tells whether a change has what it needs by its kind, and nothing else.
func wellFormed(ch api.Change) bool {
	return shaped(ch) && maybeExpr(ch.Expr) && maybeExpr(ch.Other)
}

// shaped tells whether a change is well formed, whatever expressions it has where it needs some.
func shaped(ch api.Change) bool {
	n, ok := needs(ch.Kind)
	typed := ch.Type == api.Type{}
	if n.typed {
		typed = class.RightType(ch.Type)
	}
	return ok && typed &&
		named(n.field, ch.Field) && named(n.name, ch.Name) && named(n.more, ch.More) &&
		(n.typed || ch.Expr == "") && (n.other || ch.Other == "")
}

// named tells whether a name that is needed is right, and one that is not is empty.
func named(needed bool, s string) bool {
	if needed {
		return words.Name(s)
	}
	return s == ""
}

func maybeExpr(s string) bool {
	if s == "" {
		return true
	}
	_, _, err := expr.Parse(s)
	return err == api.OK
}

// Encode are a change's bytes.
func Encode(ch api.Change) (string, api.Errno) {
	if !wellFormed(ch) {
		return "", api.ErrChange
	}
	var b strings.Builder
	texts := func(l ...string) {
		for _, s := range l {
			laid, _ := wire.Text(s)
			b.WriteString(laid)
		}
	}
	b.WriteString(wire.Num(ch.Kind))
	texts(ch.Field, ch.Name, ch.More)
	b.WriteString(wire.Num(ch.Type.Kind) + wire.Num(ch.Type.Of))
	texts(ch.Expr, ch.Other)
	return b.String(), api.OK
}

// Decode is the change whose bytes stand in s from at on, and the place behind them.
func Decode(s string, at int) (api.Change, int, api.Errno) {
	r := parts.New(s, at)
	var ch api.Change
	ch.Kind = r.Num()
	ch.Field, ch.Name, ch.More = r.Text(), r.Text(), r.Text()
	ch.Type.Kind, ch.Type.Of = r.Num(), r.Num()
	ch.Expr, ch.Other = r.Text(), r.Text()
	to, ok := r.End()
	if !ok || !wellFormed(ch) {
		return api.Change{}, 0, api.ErrWire
	}
	return ch, to, api.OK
}
