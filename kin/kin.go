// Package kin tells many objects by one schema, which is checked once alone.
package kin

import (
	"moraine/api"
	"moraine/fresh"
	"moraine/obj"
	"moraine/schema"
)

// version is one of a class.
type version struct{ class, ver int }

// Kin knows a right schema, and those classes of it that were asked for.
type Kin struct {
	schema  api.Schema
	classes map[version]api.Schema
}

// New tells objects by that schema: schema.Check's error.
func New(s api.Schema) (*Kin, api.Errno) {
	if _, err := schema.Check(s); err != api.OK {
		return nil, err
	}
	return &Kin{s, map[version]api.Schema{}}, api.OK
}

// Latest is an object as it is; false, if it is not right by the schema.
func (k *Kin) Latest(o api.Obj) (api.Obj, bool) {
	alone, ok := k.alone(version{o.Class, o.Ver})
	if !ok || !obj.Right(alone, api.Obj{ID: o.ID, Vals: o.Vals}) {
		return api.Obj{}, false
	}
	line := k.schema.Lines[o.Class]
	if o.Ver == len(line.Changes) {
		return fresh.Obj(o), true
	}
	class := o.Class
	o.Class = 0
	now, err := obj.Latest(api.Schema{Lines: []api.Line{line}}, o)
	now.Class = class
	return now, err == api.OK
}

// alone is a schema of a version's class alone, as if it had never been another one.
func (k *Kin) alone(v version) (api.Schema, bool) {
	if known, ok := k.classes[v]; ok {
		return known, true
	}
	c, err := schema.At(k.schema, v.class, v.ver)
	if err != api.OK {
		return api.Schema{}, false
	}
	made := api.Schema{Lines: []api.Line{{First: c}}}
	k.classes[v] = made
	return made, true
}
