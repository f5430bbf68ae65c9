package world

import (
	"cmp"
	"slices"

	"moraine/api"
	"moraine/fresh"
	"moraine/kin"
	"moraine/schema"
	"moraine/words"
)

// doing is a world on which records are done.
type doing struct {
	api.World
	kin *kin.Kin
}

// Apply is a world on which records were done, and how many; beside an error the number of the record that could not be.
func Apply(w api.World, l []api.Rec) (api.World, int, api.Errno) {
	if err := Check(w); err != api.OK {
		return api.World{}, 0, err
	}
	k, err := kin.New(w.Schema)
	if err != api.OK {
		return api.World{}, 0, err
	}
	d := &doing{fresh.World(w), k}
	kinds := map[int]func(api.Rec) api.Errno{
		api.RPut: d.put, api.RRoot: d.root, api.RClass: d.class, api.RChange: d.change, api.RSnap: d.snap,
	}
	for i, r := range l {
		do, ok := kinds[r.Kind]
		if !ok {
			return api.World{}, i, api.ErrWorld
		}
		if err := do(r); err != api.OK {
			return api.World{}, i, err
		}
	}
	if err := Check(d.World); err != api.OK {
		return api.World{}, len(l), err
	}
	return d.World, len(l), api.OK
}

func (d *doing) put(r api.Rec) api.Errno {
	if _, ok := d.kin.Latest(r.Obj); !ok {
		return api.ErrWorld
	}
	at, found := slices.BinarySearchFunc(d.Objs, r.Obj.ID, func(o api.Obj, id int) int { return cmp.Compare(o.ID, id) })
	d.Objs = placed(d.Objs, at, found, fresh.Obj(r.Obj))
	d.Next = max(d.Next, r.Obj.ID+1)
	return api.OK
}

func (d *doing) root(r api.Rec) api.Errno {
	if !words.Name(r.Name) || r.ID < 0 || r.ID > api.MaxID {
		return api.ErrWorld
	}
	at, found := slices.BinarySearchFunc(d.Roots, r.Name, func(root api.Root, name string) int { return cmp.Compare(root.Name, name) })
	switch {
	case r.ID > 0:
		d.Roots = placed(d.Roots, at, found, api.Root{Name: r.Name, ID: r.ID})
	case found:
		d.Roots = slices.Delete(d.Roots, at, at+1)
	}
	return api.OK
}

// placed is a list with an item at a place: instead of the one there, if it was found, or ahead of it.
func placed[T any](l []T, at int, found bool, item T) []T {
	if found {
		l[at] = item
		return l
	}
	return slices.Insert(l, at, item)
}

func (d *doing) class(r api.Rec) api.Errno {
	if r.ID != len(d.Schema.Lines) {
		return api.ErrWorld
	}
	return d.turn(schema.Add(d.Schema, r.Class))
}

func (d *doing) change(r api.Rec) api.Errno {
	if r.ID < 0 || r.ID >= len(d.Schema.Lines) || r.Ver != len(d.Schema.Lines[r.ID].Changes)+1 {
		return api.ErrWorld
	}
	return d.turn(schema.Turn(d.Schema, r.ID, r.Change))
}

// turn lets the schema be another one, if there was no error.
func (d *doing) turn(s api.Schema, err api.Errno) api.Errno {
	if err != api.OK {
		return err
	}
	d.Schema = s
	d.kin, err = kin.New(s)
	return err
}

func (d *doing) snap(r api.Rec) api.Errno {
	if !words.Name(r.Name) || r.ID != 0 && r.ID != 1 {
		return api.ErrWorld
	}
	return api.OK
}
