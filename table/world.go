package table

import (
	"maps"
	"slices"

	"moraine/api"
	"moraine/fresh"
	"moraine/kin"
	"moraine/obj"
	"moraine/world"
)

// newest is what the newest facts tell, of those up to a commit.
type newest struct {
	schema []api.Rec
	objs   map[int]api.Obj
	roots  map[string]int
	next   int
}

// upTo are the newest facts up to a commit.
func upTo(l []api.Fact, n int) newest {
	t := newest{objs: map[int]api.Obj{}, roots: map[string]int{}, next: 1}
	for _, f := range l {
		if f.N > n {
			break
		}
		switch f.Rec.Kind {
		case api.RClass, api.RChange:
			t.schema = append(t.schema, f.Rec)
		case api.RPut:
			t.objs[f.Rec.Obj.ID] = f.Rec.Obj
			t.next = max(t.next, f.Rec.Obj.ID+1)
		case api.RRoot:
			t.roots[f.Rec.Name] = f.Rec.ID
		}
	}
	return t
}

// World is the world that facts up to a commit make.
func World(l []api.Fact, n int) (api.World, api.Errno) {
	if _, err := Check(l); err != api.OK {
		return api.World{}, err
	}
	if n < 0 || n > Newest(l) {
		return api.World{}, api.ErrCommit
	}
	t := upTo(l, n)
	made, _, err := world.Apply(api.World{Next: 1}, t.schema)
	if err != api.OK {
		return api.World{}, api.ErrTable
	}
	k, err := kin.New(made.Schema)
	if err != api.OK {
		return api.World{}, api.ErrTable
	}
	made.Next = t.next
	there := t.there(k)
	for _, id := range slices.Sorted(maps.Keys(there)) {
		made.Objs = append(made.Objs, fresh.Obj(t.objs[id]))
	}
	for _, name := range slices.Sorted(maps.Keys(t.roots)) {
		if id := t.roots[name]; there[id] {
			made.Roots = append(made.Roots, api.Root{Name: name, ID: id})
		}
	}
	return made, api.OK
}

// there tells which objects are there: all but those that are not right, and those that refer to what is not there.
func (t newest) there(k *kin.Kin) map[int]bool {
	there := map[int]bool{}
	users := map[int][]int{}
	for id, o := range t.objs {
		now, ok := k.Latest(o)
		there[id] = ok
		for _, to := range obj.Refs(now) {
			users[to] = append(users[to], id)
		}
	}
	var gone []int
	fall := func(ids ...int) {
		for _, id := range ids {
			if there[id] {
				there[id] = false
				gone = append(gone, id)
			}
		}
	}
	for to, ids := range users {
		if !there[to] {
			fall(ids...)
		}
	}
	for len(gone) > 0 {
		id := gone[len(gone)-1]
		gone = gone[:len(gone)-1]
		fall(users[id]...)
	}
	for id := range t.objs {
		if !there[id] {
			delete(there, id)
		}
	}
	return there
}
