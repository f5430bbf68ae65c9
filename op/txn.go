package op

import (
	"cmp"
	"slices"
	"strconv"

	"moraine/api"
	"moraine/class"
	"moraine/fresh"
	"moraine/obj"
	"moraine/order"
	"moraine/rec"
	"moraine/schema"
	"moraine/world"
)

// refusal is what an operation panics with that can't be done.
type refusal struct{ number api.Errno }

// schemaKey is what is read by whatever hangs on classes.
const schemaKey = "s"

// txn is a transaction: its world, as the operations that were done have left it, but for Next; and what they read and tell.
type txn struct {
	api.World
	reached map[int]bool
	made    int
	recs    map[string]api.Rec
	reads   []string
}

// Run are a transaction's records, what it reads, and the next object's number behind it.
func Run(w api.World, l []api.Op) ([]api.Rec, []string, int, api.Errno) {
	ids, err := world.Reach(w)
	if err != api.OK {
		return nil, nil, 0, err
	}
	news, ok := counted(l)
	if !ok || w.Next+news > api.MaxID+1 {
		return nil, nil, 0, api.ErrOp
	}
	t := &txn{World: fresh.World(w), reached: map[int]bool{}, recs: map[string]api.Rec{}}
	for _, id := range ids {
		t.reached[id] = true
	}
	if err := t.doAll(l); err != api.OK {
		return nil, nil, 0, err
	}
	recs := t.records()
	if _, _, err := world.Apply(w, recs); err != api.OK {
		return nil, nil, 0, err
	}
	return recs, t.reads, w.Next + news, api.OK
}

// counted is how many new objects operations make, if they are right, and name no new one that there will not be.
func counted(l []api.Op) (int, bool) {
	if len(l) > api.MaxOps {
		return 0, false
	}
	news := 0
	for _, o := range l {
		if !Right(o) {
			return 0, false
		}
		if o.Kind == api.OpNew {
			news++
		}
	}
	known := true
naming:
	for _, o := range l {
		for n := range numbers(o) {
			if n < -news {
				known = false
				break naming
			}
		}
	}
	return news, known
}

// doAll does operations one behind the other, up to the first one that is refused.
func (t *txn) doAll(l []api.Op) (err api.Errno) {
	defer func() {
		if r, refused := recover().(refusal); refused {
			err = r.number
		}
	}()
	known := kinds()
	for _, o := range l {
		known[o.Kind].do(t, o)
	}
	return api.OK
}

func refuse(number api.Errno) { panic(refusal{number}) }

// sure refuses with an error, if it is one.
func sure(err api.Errno) {
	if err != api.OK {
		refuse(err)
	}
}

// read keeps the keys of what was read.
func (t *txn) read(keys ...string) {
	for _, key := range keys {
		if !slices.Contains(t.reads, key) {
			t.reads = append(t.reads, key)
		}
	}
}

// tell keeps records, each instead of the one of its key that was told ahead.
func (t *txn) tell(recs ...api.Rec) {
	for _, r := range recs {
		t.recs[rec.Key(r)] = r
	}
}

// records are those that were told, in order.
func (t *txn) records() []api.Rec {
	var l []api.Rec
	for _, r := range t.recs {
		l = append(l, fresh.Rec(r))
	}
	slices.SortFunc(l, func(a, b api.Rec) int { return order.Recs(a, b) })
	return l
}

// number is that of the object that is named so; it is refused, if it is not reached, and none of the first new ones.
func (t *txn) number(id, news int) int {
	if id > 0 && !t.reached[id] || -id > news {
		refuse(api.ErrGone)
	}
	if id < 0 {
		return t.Next - id - 1
	}
	return id
}

// written are values with the numbers of objects in their references.
func (t *txn) written(vals ...api.Val) []api.Val {
	turn := func(v api.Val) api.Val {
		if v.Kind == api.Ref || v.Kind == api.Weak {
			v.N = t.number(v.N, api.MaxOps)
		}
		return v
	}
	return fresh.Each(vals, func(v api.Val) api.Val {
		v.L = fresh.Each(v.L, turn)
		return turn(v)
	})
}

// put lets an object stand in the world.
func (t *txn) put(o api.Obj) {
	at, found := t.place(o.ID)
	if found {
		t.Objs[at] = o
	} else {
		t.Objs = slices.Insert(t.Objs, at, o)
	}
	t.tell(api.Rec{Kind: api.RPut, Obj: o})
}

func (t *txn) place(id int) (int, bool) {
	return slices.BinarySearchFunc(t.Objs, id, func(o api.Obj, id int) int { return cmp.Compare(o.ID, id) })
}

func (t *txn) makeNew(o api.Op) {
	number, ok := schema.Find(t.Schema, o.Class)
	if !ok {
		refuse(api.ErrOp)
	}
	vals := t.written(o.Vals...)
	ver, err := schema.Last(t.Schema, number)
	sure(err)
	c, err := schema.At(t.Schema, number, ver)
	sure(err)
	_, err = class.Check(c, vals)
	sure(err)
	t.put(api.Obj{ID: t.Next + t.made, Class: number, Ver: ver, Vals: vals})
	t.made++
	t.read(schemaKey)
}

func (t *txn) set(o api.Op) {
	at, _ := t.place(t.number(o.ID, t.made))
	v := t.written(o.Val)[0]
	made, err := obj.Set(t.Schema, t.Objs[at], o.Name, v)
	sure(err)
	t.put(made)
	if o.ID > 0 {
		t.read(objKey(o.ID))
	}
	t.read(schemaKey)
}

func (t *txn) giveRoot(o api.Op) { t.root(o.Name, t.number(o.ID, api.MaxOps)) }

func (t *txn) takeRoot(o api.Op) {
	if id, ok := world.Root(t.World, o.Name); !ok || id == 0 {
		refuse(api.ErrGone)
	}
	t.root(o.Name, 0)
	t.read(rootKey(o.Name))
}

// root lets a name be a root's; of the number 0 it is none's.
func (t *txn) root(name string, id int) {
	t.Roots = slices.DeleteFunc(t.Roots, func(r api.Root) bool { return r.Name == name })
	t.Roots = append(t.Roots, api.Root{Name: name, ID: id})
	t.tell(api.Rec{Kind: api.RRoot, Name: name, ID: id})
}

func (t *txn) addClass(o api.Op) {
	made, err := schema.Add(t.Schema, o.Def)
	sure(err)
	t.tell(api.Rec{Kind: api.RClass, ID: len(t.Schema.Lines), Class: o.Def})
	t.Schema = made
	t.read(schemaKey)
}

func (t *txn) turnClass(o api.Op) {
	number, ok := schema.Find(t.Schema, o.Class)
	if !ok {
		refuse(api.ErrOp)
	}
	made, err := schema.Turn(t.Schema, number, o.Change)
	sure(err)
	t.Schema = made
	t.tell(api.Rec{Kind: api.RChange, ID: number, Ver: len(made.Lines[number].Changes), Change: o.Change})
	t.read(schemaKey)
}

func (t *txn) readObj(o api.Op) { t.read(objKey(t.number(o.ID, 0))) }

func (t *txn) readRoot(o api.Op) { t.read(rootKey(o.Name)) }

func (t *txn) snap(name string, id int) { t.tell(api.Rec{Kind: api.RSnap, Name: name, ID: id}) }

func objKey(id int) string { return "o" + strconv.Itoa(id) }

func rootKey(name string) string { return "r" + name }
