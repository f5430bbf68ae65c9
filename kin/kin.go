// Package kin tells many objects by one schema, which is checked once alone.
package kin

import (
	"moraine/api"
	"moraine/change"
	"moraine/fresh"
	"moraine/obj"
	"moraine/schema"
)

// version is one of a class.
type version struct{ class, ver int }

// Kin knows a right schema, and those classes of it that were asked for.
type Kin struct {
	schema  api.Schema
	classes map[version]api.Class
}

// New tells objects by that schema: schema.Check's error.
func New(s api.Schema) (*Kin, api.Errno) {
	if _, err := schema.Check(s); err != api.OK {
		return nil, err
	}
	return &Kin{s, map[version]api.Class{}}, api.OK
}

// Latest is an object as it is; false, if it is not right by the schema.
func (k *Kin) Latest(o api.Obj) (api.Obj, bool) {
	c, ok := k.class(o.Class, o.Ver)
	if !ok || !rightAlone(c, o) {
		return api.Obj{}, false
	}
	now := fresh.Obj(o)
	changes := k.schema.Lines[o.Class].Changes
	for ; now.Ver < len(changes); now.Ver++ {
		c, _ := k.class(o.Class, now.Ver)
		vals, err := change.Vals(c, changes[now.Ver], now.Vals)
		if err != api.OK {
			return api.Obj{}, false
		}
		now.Vals = vals
	}
	return now, true
}

// rightAlone tells whether an object would be right, if its class had never been another one.
func rightAlone(c api.Class, o api.Obj) bool {
	return obj.Right(api.Schema{Lines: []api.Line{{First: c}}}, api.Obj{ID: o.ID, Vals: o.Vals})
}

// class is a class of a version.
func (k *Kin) class(number, ver int) (api.Class, bool) {
	known, ok := k.classes[version{number, ver}]
	if ok {
		return known, true
	}
	c, err := schema.At(k.schema, number, ver)
	if err != api.OK {
		return api.Class{}, false
	}
	k.classes[version{number, ver}] = c
	return c, true
}
