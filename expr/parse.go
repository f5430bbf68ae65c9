package expr

import "moraine/api"

// fault is what a parser panics with: the place of the first piece that can't go on.
type fault struct{ at int }

// parser makes a tree of pieces.
type parser struct {
	pieces
	binds map[string]int
}

// Parse is an expression's tree; beside ErrExpr the place of the fault.
func Parse(s string) (api.Expr, int, api.Errno) {
	if len(s) > api.MaxInput {
		return api.Expr{}, api.MaxInput, api.ErrExpr
	}
	p := parser{binds: binds()}
	p.end = len(s)
	for next, ok := range scan(s) {
		if !ok {
			return api.Expr{}, next.at, api.ErrExpr
		}
		p.list = append(p.list, next)
	}
	e, at, err := p.whole()
	if err != api.OK {
		return api.Expr{}, at, err
	}
	if !rightBy(p.binds, e) {
		return api.Expr{}, 0, api.ErrDeep
	}
	return e, 0, api.OK
}

// whole is the tree of all pieces.
func (p *parser) whole() (e api.Expr, at int, err api.Errno) {
	defer func() {
		if f, ok := recover().(fault); ok {
			e, at, err = api.Expr{}, f.at, api.ErrExpr
		}
	}()
	e = p.between(compares)
	if next := p.ahead(); next.kind != 0 {
		panic(fault{next.at})
	}
	return e, 0, api.OK
}

// between is what goes on as long as operators bind that much at least.
func (p *parser) between(least int) api.Expr {
	left := p.tight()
	for {
		next := p.ahead()
		bind, ok := p.binds[next.s]
		if next.kind != sign || !ok || bind < least {
			return left
		}
		p.take()
		left = api.Expr{Kind: api.EOp, S: next.s, Kids: []api.Expr{left, p.between(bind + 1)}}
	}
}

// tight is what no operator can part.
func (p *parser) tight() api.Expr {
	switch {
	case p.is("-"):
		p.take()
		return api.Expr{Kind: api.EAhead, S: "-", Kids: []api.Expr{p.tight()}}
	case p.is("("):
		p.take()
		e := p.between(compares)
		p.want(")")
		return e
	}
	next := p.take()
	if next.kind == 0 || next.kind == sign {
		panic(fault{next.at})
	}
	if next.kind == api.EField && p.is("(") {
		return p.call(next.s)
	}
	return api.Expr{Kind: next.kind, N: next.n, S: next.s}
}

// call is one of that name, which stands ahead of what is left.
func (p *parser) call(name string) api.Expr {
	many, ok := takes(name)
	if !ok {
		panic(fault{p.ahead().at})
	}
	e := api.Expr{Kind: api.ECall, S: name}
	p.want("(")
	for i := range many {
		if i > 0 {
			p.want(",")
		}
		e.Kids = append(e.Kids, p.between(compares))
	}
	p.want(")")
	return e
}

// want takes that sign.
func (p *parser) want(s string) {
	if !p.is(s) {
		panic(fault{p.ahead().at})
	}
	p.take()
}
