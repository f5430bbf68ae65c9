package query

import (
	"slices"

	"moraine/api"
	"moraine/class"
	"moraine/fresh"
	"moraine/index"
	"moraine/schema"
	"moraine/val"
	"moraine/world"
)

// Run is what a world answers to a query.
func Run(w api.World, q api.Query) ([]api.Val, api.Errno) {
	live, err := world.Live(w)
	if err != api.OK {
		return nil, err
	}
	if !right(q) {
		return nil, api.ErrQuery
	}
	if q.Kind == api.QPath {
		return goAlong(live, q)
	}
	return find(live, q)
}

// Ask is what a world answers to a query that is written.
func Ask(w api.World, s string) ([]api.Val, api.Errno) {
	q, err := Parse(s)
	if err != api.OK {
		return nil, err
	}
	return Run(w, q)
}

// walk goes along references of a world that has nothing but what is reached.
type walk struct {
	api.World
	objs map[int]api.Obj
}

func goAlong(live api.World, q api.Query) ([]api.Val, api.Errno) {
	id, ok := world.Root(live, q.Root)
	if !ok {
		return nil, api.ErrNone
	}
	w := walk{live, map[int]api.Obj{}}
	for _, o := range live.Objs {
		w.objs[o.ID] = o
	}
	v := api.Val{Kind: api.Ref, N: id}
	for _, s := range q.Steps {
		step := w.place
		if s.Field != "" {
			step = w.field
		}
		next, err := step(v, s)
		if err != api.OK {
			return nil, err
		}
		v = next
	}
	return []api.Val{fresh.Val(v)}, api.OK
}

// field is the value of a field of the object that a value refers to.
func (w walk) field(v api.Val, s api.Step) (api.Val, api.Errno) {
	o, ok := w.objs[v.N]
	if v.Kind != api.Ref && v.Kind != api.Weak || !ok {
		return api.Val{}, api.ErrNone
	}
	at, ok := class.Field(newest(w.Schema, o.Class), s.Field)
	if !ok {
		return api.Val{}, api.ErrField
	}
	return o.Vals[at], api.OK
}

// place is the value at a place of a list.
func (w walk) place(v api.Val, s api.Step) (api.Val, api.Errno) {
	if v.Kind != api.List {
		return api.Val{}, api.ErrFit
	}
	if s.At >= len(v.L) {
		return api.Val{}, api.ErrNone
	}
	return v.L[s.At], api.OK
}

// newest is a class of a right schema, as it is now.
func newest(s api.Schema, number int) api.Class {
	ver, _ := schema.Last(s, number)
	c, _ := schema.At(s, number, ver)
	return c
}

func find(live api.World, q api.Query) ([]api.Val, api.Errno) {
	number, ok := schema.Find(live.Schema, q.Class)
	if !ok {
		return nil, api.ErrClass
	}
	all := slices.DeleteFunc(live.Objs, func(o api.Obj) bool { return o.Class != number })
	if q.Field == "" {
		return refs(fresh.Each(all, func(o api.Obj) int { return o.ID })), api.OK
	}
	c := newest(live.Schema, number)
	at, ok := class.Field(c, q.Field)
	if !ok {
		return nil, api.ErrField
	}
	if !val.Fits(q.Val, c.Fields[at].Type) {
		return nil, api.ErrFit
	}
	x := index.New()
	for _, o := range all {
		v := o.Vals[at]
		if v.Kind == q.Val.Kind && (q.Op == "=" || !val.Same(v, q.Val)) {
			x.Put(v, o.ID)
		}
	}
	return refs(beside(x, q)), api.OK
}

// beside are the numbers of an index's pairs that stand on that side of the query's value that its operator says.
func beside(x *index.Index, q api.Query) []int {
	switch q.Op {
	case "<":
		return x.Range(api.Val{}, q.Val)
	case ">":
		// No list is asked for, and each stands behind all that is none.
		return x.Range(q.Val, api.Val{Kind: api.List})
	}
	return x.Find(q.Val)
}

// refs are references, by their numbers.
func refs(ids []int) []api.Val {
	slices.Sort(ids)
	return fresh.Each(ids, func(id int) api.Val { return api.Val{Kind: api.Ref, N: id} })
}
