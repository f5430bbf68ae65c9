package expr

import (
	"strconv"
	"strings"

	"moraine/api"
	"moraine/words"
)

// Print is a tree's text.
func Print(e api.Expr) (string, api.Errno) {
	if !Right(e) {
		return "", api.ErrExpr
	}
	return printer{binds()}.text(e), api.OK
}

// printer writes trees that are right.
type printer struct{ binds map[string]int }

func (p printer) text(e api.Expr) string {
	switch e.Kind {
	case api.ENum:
		return strconv.Itoa(e.N)
	case api.EText:
		return words.Quote(e.S)
	case api.EOp:
		bind := p.binds[e.S]
		return p.kid(e.Kids[0], bind) + " " + e.S + " " + p.kid(e.Kids[1], bind+1)
	case api.EAhead:
		return "-" + p.kid(e.Kids[0], tight)
	case api.ECall:
		var kids []string
		for _, kid := range e.Kids {
			kids = append(kids, p.text(kid))
		}
		return e.S + "(" + strings.Join(kids, ", ") + ")"
	}
	return e.S
}

// kid is a kid's text, in brackets if it is an operator that binds less.
func (p printer) kid(e api.Expr, least int) string {
	if e.Kind == api.EOp && p.binds[e.S] < least {
		return "(" + p.text(e) + ")"
	}
	return p.text(e)
}
