// Package fresh makes copies that share no memory with what they are of.
package fresh

import "moraine/api"

// Each is a new list of what a function makes of each item.
func Each[T, U any](l []T, of func(T) U) []U {
	var made []U
	for _, item := range l {
		made = append(made, of(item))
	}
	return made
}

// Val is a copy of a value, Vals one of a list of them.
func Val(v api.Val) api.Val {
	v.L = Vals(v.L)
	return v
}

func Vals(l []api.Val) []api.Val { return Each(l, Val) }

// Class is a copy of a class, Schema one of a schema.
func Class(c api.Class) api.Class {
	c.Fields = append([]api.Field(nil), c.Fields...)
	return c
}

func Schema(s api.Schema) api.Schema { return api.Schema{Lines: Each(s.Lines, line)} }

func line(l api.Line) api.Line {
	return api.Line{First: Class(l.First), Changes: append([]api.Change(nil), l.Changes...)}
}

// Obj is a copy of an object.
func Obj(o api.Obj) api.Obj {
	o.Vals = Vals(o.Vals)
	return o
}

// World is a copy of a world.
func World(w api.World) api.World {
	w.Schema = Schema(w.Schema)
	w.Objs = Each(w.Objs, Obj)
	w.Roots = append([]api.Root(nil), w.Roots...)
	return w
}

// Rec is a copy of a record, Fact one of a fact.
func Rec(r api.Rec) api.Rec {
	r.Obj, r.Class = Obj(r.Obj), Class(r.Class)
	return r
}

func Fact(f api.Fact) api.Fact {
	f.Rec = Rec(f.Rec)
	return f
}

// Laid are a commit's records as facts that lie in no segment yet.
func Laid(b api.Batch) []api.Fact {
	return Each(b.Recs, func(r api.Rec) api.Fact { return api.Fact{N: b.N, Rec: Rec(r)} })
}
