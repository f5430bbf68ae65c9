// Package kin tells many objects by one schema, which is checked once alone.
package kin

import (
	"moraine/api"
	"moraine/change"
	"moraine/fresh"
	"moraine/obj"
	"moraine/schema"
)

// Kin knows a right schema, and all versions of those classes that were asked for.
type Kin struct {
	schema   api.Schema
	versions map[int][]api.Class
}

// New tells objects by that schema: schema.Check's error.
func New(s api.Schema) (*Kin, api.Errno) {
	if _, err := schema.Check(s); err != api.OK {
		return nil, err
	}
	return &Kin{s, map[int][]api.Class{}}, api.OK
}

// Right tells whether an object is right by the schema.
func (k *Kin) Right(o api.Obj) bool {
	if o.Class < 0 || o.Class >= len(k.schema.Lines) {
		return false
	}
	classes := k.of(o.Class)
	if o.Ver < 0 || o.Ver >= len(classes) {
		return false
	}
	// It is right, if it would be, had its class never been another one.
	alone := api.Schema{Lines: []api.Line{{First: classes[o.Ver]}}}
	return obj.Right(alone, api.Obj{ID: o.ID, Vals: o.Vals})
}

// Latest is an object as it is; false, if it is not right by the schema.
func (k *Kin) Latest(o api.Obj) (api.Obj, bool) {
	if !k.Right(o) {
		return api.Obj{}, false
	}
	now := fresh.Obj(o)
	classes, changes := k.of(o.Class), k.schema.Lines[o.Class].Changes
	for ; now.Ver < len(changes); now.Ver++ {
		vals, err := change.Vals(classes[now.Ver], changes[now.Ver], now.Vals)
		if err != api.OK {
			return api.Obj{}, false
		}
		now.Vals = vals
	}
	return now, true
}

// of are all versions of a class.
func (k *Kin) of(number int) []api.Class {
	known, ok := k.versions[number]
	if ok {
		return known
	}
	l := k.schema.Lines[number]
	c := l.First
	classes := []api.Class{c}
	for _, ch := range l.Changes {
		c, _ = change.Apply(c, ch)
		classes = append(classes, c)
	}
	k.versions[number] = classes
	return classes
}
