package world

import (
	"maps"
	"slices"

	"moraine/api"
	"moraine/fresh"
	"moraine/kin"
	"moraine/schema"
	"moraine/words"
)

// doing is a world on which records are done.
type doing struct {
	schema api.Schema
	kin    *kin.Kin
	objs   map[int]api.Obj
	roots  map[string]int
	next   int
}

// Apply is a world on which records were done, and how many; beside an error the number of the record that could not be.
func Apply(w api.World, l []api.Rec) (api.World, int, api.Errno) {
	if err := Check(w); err != api.OK {
		return api.World{}, 0, err
	}
	d := &doing{objs: map[int]api.Obj{}, roots: map[string]int{}, next: w.Next}
	if err := d.turn(w.Schema, api.OK); err != api.OK {
		return api.World{}, 0, err
	}
	for _, o := range w.Objs {
		d.objs[o.ID] = o
	}
	for _, r := range w.Roots {
		d.roots[r.Name] = r.ID
	}
	kinds := map[int]func(api.Rec) api.Errno{
		api.RPut: d.put, api.RRoot: d.root, api.RClass: d.class, api.RChange: d.change, api.RSnap: d.snap,
	}
	for i, r := range l {
		do, ok := kinds[r.Kind]
		if !ok {
			return api.World{}, i, api.ErrWorld
		}
		if err := do(r); err != api.OK {
			return api.World{}, i, err
		}
	}
	made := d.world()
	if err := Check(made); err != api.OK {
		return api.World{}, len(l), err
	}
	return made, len(l), api.OK
}

// world is what there is now.
func (d *doing) world() api.World {
	w := api.World{Schema: fresh.Schema(d.schema), Next: d.next}
	for _, id := range slices.Sorted(maps.Keys(d.objs)) {
		w.Objs = append(w.Objs, fresh.Obj(d.objs[id]))
	}
	for _, name := range slices.Sorted(maps.Keys(d.roots)) {
		w.Roots = append(w.Roots, api.Root{Name: name, ID: d.roots[name]})
	}
	return w
}

func (d *doing) put(r api.Rec) api.Errno {
	if !d.kin.Right(r.Obj) {
		return api.ErrWorld
	}
	d.objs[r.Obj.ID] = r.Obj
	d.next = max(d.next, r.Obj.ID+1)
	return api.OK
}

func (d *doing) root(r api.Rec) api.Errno {
	if !words.Name(r.Name) || r.ID < 0 || r.ID > api.MaxID {
		return api.ErrWorld
	}
	if r.ID > 0 {
		d.roots[r.Name] = r.ID
	} else {
		delete(d.roots, r.Name)
	}
	return api.OK
}

func (d *doing) class(r api.Rec) api.Errno {
	if r.ID != len(d.schema.Lines) {
		return api.ErrWorld
	}
	return d.turn(schema.Add(d.schema, r.Class))
}

func (d *doing) change(r api.Rec) api.Errno {
	if r.ID < 0 || r.ID >= len(d.schema.Lines) || r.Ver != len(d.schema.Lines[r.ID].Changes)+1 {
		return api.ErrWorld
	}
	return d.turn(schema.Turn(d.schema, r.ID, r.Change))
}

// turn lets the schema be another one, if there was no error.
func (d *doing) turn(s api.Schema, err api.Errno) api.Errno {
	if err != api.OK {
		return err
	}
	d.schema = s
	d.kin, err = kin.New(s)
	return err
}

func (d *doing) snap(r api.Rec) api.Errno {
	if !words.Name(r.Name) || r.ID != 0 && r.ID != 1 {
		return api.ErrWorld
	}
	return api.OK
}
