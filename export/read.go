package export

import (
	"strings"

	"moraine/api"
	"moraine/schema"
	"moraine/val"
)

// Of which lines a text goes on, in this order.
const (
	classLines = iota
	rootLines
	objectLines
)

// Read is the world of a text.
func Read(s string) (api.World, api.Errno) {
	r := reader{}
	for rest := s; rest != ""; {
		line, behind, _ := strings.Cut(rest, "\n")
		if !r.line(line) {
			return api.World{}, api.ErrExport
		}
		rest = behind
	}
	r.world.Next = len(r.world.Objs) + 1
	// What would be written in another way than it stands there was never written.
	if text, err := Text(r.world); err != api.OK || text != s {
		return api.World{}, api.ErrExport
	}
	return r.world, api.OK
}

// reader makes a world of lines.
type reader struct {
	world api.World
	part  int
}

// line reads a line: where none of one part can be read, those of the next one begin.
func (r *reader) line(s string) bool {
	words := strings.Split(s, " ")
	switch r.part {
	case classLines:
		if r.class(words) || r.field(words) {
			return true
		}
		r.part = rootLines
		fallthrough
	case rootLines:
		if r.root(words) {
			return true
		}
		r.part = objectLines
		fallthrough
	default:
		return r.object(s)
	}
}

func (r *reader) class(words []string) bool {
	if len(words) != 2 || words[0] != "class" {
		return false
	}
	r.world.Schema.Lines = append(r.world.Schema.Lines, api.Line{First: api.Class{Name: words[1]}})
	return true
}

func (r *reader) field(words []string) bool {
	last := len(r.world.Schema.Lines) - 1
	if last < 0 || len(words) < 3 || words[0] != "" {
		return false
	}
	f := api.Field{Name: words[1]}
	words = words[2:]
	if words[0] == "list" && len(words) > 1 {
		words = words[1:]
		f.Type = api.Type{Kind: api.List, Of: kindOf(words[0])}
	} else {
		f.Type.Kind = kindOf(words[0])
	}
	f.Indexed = len(words) > 1
	c := &r.world.Schema.Lines[last].First
	c.Fields = append(c.Fields, f)
	return true
}

// kindOf is the kind that has a name, or none.
func kindOf(name string) int {
	for kind, known := range kindNames {
		if known == name {
			return kind
		}
	}
	return api.Nil
}

func (r *reader) root(words []string) bool {
	if len(words) != 3 || words[0] != "root" {
		return false
	}
	v, _, _ := val.Read(words[2], 0)
	r.world.Roots = append(r.world.Roots, api.Root{Name: words[1], ID: v.N})
	return true
}

func (r *reader) object(s string) bool {
	rest, ok := strings.CutPrefix(s, "object ")
	if !ok {
		return false
	}
	name, _, _ := strings.Cut(rest, " ")
	number, ok := schema.Find(r.world.Schema, name)
	if !ok {
		return false
	}
	o := api.Obj{ID: len(r.world.Objs) + 1, Class: number}
	for at := len(name); at < len(rest); {
		v, to, err := val.Read(rest, at+1)
		if err != api.OK {
			return false
		}
		o.Vals, at = append(o.Vals, v), to
	}
	r.world.Objs = append(r.world.Objs, o)
	return true
}
