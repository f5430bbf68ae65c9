package export

import (
	"strings"

	"moraine/api"
	"moraine/schema"
	"moraine/val"
	"moraine/words"
)

// Of which lines a text goes on, in this order.
const (
	classLines = iota
	rootLines
	objectLines
)

// Read is the world of a text.
func Read(s string) (api.World, api.Errno) {
	r := reader{}
	for rest := s; rest != ""; {
		line, behind, _ := strings.Cut(rest, "\n")
		if !r.line(line) {
			return api.World{}, api.ErrExport
		}
		rest = behind
	}
	r.world.Next = len(r.world.Objs) + 1
	// What would be written in another way than it stands there was never written.
	if text, err := Text(r.world); err != api.OK || text != s {
		return api.World{}, api.ErrExport
	}
	return r.world, api.OK
}

// reader makes a world of lines.
type reader struct {
	world api.World
	part  int
}

// line reads a line: where none of one part can be read, those of the next one begin.
func (r *reader) line(s string) bool {
	l := strings.Split(s, " ")
	switch r.part {
	case classLines:
		if r.class(l) || r.field(l) {
			return true
		}
		r.part = rootLines
		fallthrough
	case rootLines:
		if r.root(l) {
			return true
		}
		r.part = objectLines
		fallthrough
	default:
		return r.object(s)
	}
}

func (r *reader) class(l []string) bool {
	if len(l) != 2 || l[0] != "class" {
		return false
	}
	r.world.Schema.Lines = append(r.world.Schema.Lines, api.Line{First: api.Class{Name: l[1]}})
	return true
}

func (r *reader) field(l []string) bool {
	last := len(r.world.Schema.Lines) - 1
	if last < 0 || len(l) < 3 || l[0] != "" {
		return false
	}
	f := api.Field{Name: l[1], Type: api.Type{Kind: words.KindOf(l[2])}}
	l = l[3:]
	if f.Type.Kind == api.List && len(l) > 0 {
		f.Type.Of = words.KindOf(l[0])
		l = l[1:]
	}
	f.Indexed = len(l) > 0
	c := &r.world.Schema.Lines[last].First
	c.Fields = append(c.Fields, f)
	return true
}

func (r *reader) root(l []string) bool {
	if len(l) != 3 || l[0] != "root" {
		return false
	}
	v, _, _ := val.Read(l[2], 0)
	r.world.Roots = append(r.world.Roots, api.Root{Name: l[1], ID: v.N})
	return true
}

func (r *reader) object(s string) bool {
	rest, ok := strings.CutPrefix(s, "object ")
	if !ok {
		return false
	}
	name, _, _ := strings.Cut(rest, " ")
	number, ok := schema.Find(r.world.Schema, name)
	if !ok {
		return false
	}
	o := api.Obj{ID: len(r.world.Objs) + 1, Class: number}
	for at := len(name); at < len(rest); {
		v, to, err := val.Read(rest, at+1)
		if err != api.OK {
			return false
		}
		o.Vals, at = append(o.Vals, v), to
	}
	r.world.Objs = append(r.world.Objs, o)
	return true
}
