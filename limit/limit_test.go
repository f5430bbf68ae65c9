package limit_test

import (
	"math"
	"strconv"
	"strings"
	"testing"

	"moraine/api"
	"moraine/limit"
	"moraine/rec"
)

func root(name string, id int) api.Rec { return api.Rec{Kind: api.RRoot, Name: name, ID: id} }
func snap(name string, id int) api.Rec { return api.Rec{Kind: api.RSnap, Name: name, ID: id} }

// list is an object of that number, which refers to the one before.
func list(id int) api.Obj {
	o := api.Obj{ID: id, Vals: []api.Val{{}}}
	if id > 1 {
		o.Vals[0] = api.Val{Kind: api.Ref, N: id - 1}
	}
	return o
}

func put(id int) api.Rec { return api.Rec{Kind: api.RPut, Obj: list(id)} }

// of is a world of so many objects, of which the last ones are reached, and so many roots.
func of(objs, reached, roots int) api.World {
	w := api.World{Schema: api.Schema{Lines: []api.Line{{First: api.Class{Name: "c", Fields: []api.Field{{Name: "r", Type: api.Type{Kind: api.Ref}}}}}}}, Next: objs + 1}
	for id := 1; id <= objs; id++ {
		w.Objs = append(w.Objs, list(id))
	}
	for i := range roots {
		w.Roots = append(w.Roots, api.Root{Name: "r" + strconv.Itoa(100+i), ID: reached})
	}
	return w
}

func snaps(names ...string) (l []api.Snap) {
	for _, name := range names {
		l = append(l, api.Snap{Name: name, N: 1})
	}
	return l
}

func TestCheck(t *testing.T) {
	eight := snaps("a", "b", "c", "d", "e", "f", "g", "h")
	full := of(200, 200, 20)
	for i, x := range []struct {
		w     api.World
		snaps []api.Snap
		l     []api.Rec
		want  api.Errno
	}{
		{api.World{Next: 1}, nil, nil, api.OK}, {full, eight, nil, api.OK}, {of(300, 200, 1), nil, nil, api.OK}, {of(201, 201, 1), nil, nil, api.ErrObjs}, {of(201, 201, 1), nil, []api.Rec{root("r100", 200)}, api.OK}, {of(201, 200, 1), nil, []api.Rec{root("z", 201)}, api.ErrObjs}, {full, nil, []api.Rec{put(201)}, api.OK}, {full, nil, []api.Rec{put(201), root("r100", 201)}, api.ErrObjs},
		{of(1, 1, 20), nil, []api.Rec{root("z", 1)}, api.ErrRoots}, {of(1, 1, 20), nil, []api.Rec{root("a", 1), root("r100", 0)}, api.OK}, {of(1, 1, 20), nil, []api.Rec{root("r100", 0), root("z", 1)}, api.OK}, {of(1, 1, 21), nil, nil, api.ErrRoots}, {of(1, 1, 20), nil, []api.Rec{root("r105", 1)}, api.OK}, {of(1, 1, 21), nil, []api.Rec{root("r105", 0)}, api.OK},
		{full, eight, []api.Rec{snap("i", 1)}, api.ErrSnaps}, {full, eight, []api.Rec{snap("a", 1)}, api.OK}, {full, eight, []api.Rec{snap("i", 1), snap("a", 0)}, api.OK}, {full, eight, []api.Rec{snap("a", 0), snap("i", 1), snap("a", 1)}, api.ErrSnaps}, {full, eight, []api.Rec{snap("z", 0)}, api.OK}, {full, append(snaps("a", "a"), eight...), nil, api.OK}, {full, append(snaps("i"), eight...), nil, api.ErrSnaps}, {full, append(snaps("i"), eight...), []api.Rec{snap("i", 0)}, api.OK},
		{of(201, 201, 21), append(snaps("i"), eight...), nil, api.ErrObjs}, {of(200, 200, 21), append(snaps("i"), eight...), nil, api.ErrRoots}, {api.World{}, append(snaps("i"), eight...), []api.Rec{{}}, api.ErrWorld}, {full, nil, []api.Rec{{}}, api.ErrWorld}, {full, nil, []api.Rec{root("z", 999)}, api.ErrWorld}, {full, nil, []api.Rec{{Kind: api.RClass, ID: 1}}, api.ErrClass}, {api.World{Next: 1, Schema: api.Schema{Lines: []api.Line{{}}}}, nil, nil, api.ErrSchema},
	} {
		if err := limit.Check(x.w, x.snaps, x.l); err != x.want {
			t.Errorf("case %d: %d, want %d", i, err, x.want)
		}
	}
}

// sized is a commit of so many bytes, of objects with texts.
func sized(t *testing.T, bytes int) api.Batch {
	t.Helper()
	b := api.Batch{Kind: api.BCommit, N: 1, Next: api.MaxID + 1}
	for id := 50000; ; id++ {
		for n := 60; n >= 0; n-- {
			more := b
			more.Recs = append(append([]api.Rec{}, b.Recs...), api.Rec{Kind: api.RPut, Obj: api.Obj{ID: id, Vals: []api.Val{{Kind: api.Text, S: strings.Repeat("x", n)}}}})
			s, err := rec.Encode(more)
			if err == api.OK && len(s) == bytes {
				return more
			}
			if err == api.OK && len(s) < bytes-30 {
				b = more
				break
			}
		}
		if len(b.Recs) > 300 {
			t.Fatalf("no commit of %d bytes", bytes)
		}
	}
}

func TestFits(t *testing.T) {
	for _, x := range []struct {
		bytes, per int
		want       bool
	}{{100, 4, true}, {106, 4, true}, {107, 4, false}, {107, 5, true}, {159, 5, true}, {160, 5, false}, {62 * 53, 64, true}, {62*53 + 1, 64, false}, {62 * 53, 63, false}} {
		if got, err := limit.Fits(sized(t, x.bytes), x.per); got != x.want || err != api.OK {
			t.Errorf("%d bytes in %d: %t, %d", x.bytes, x.per, got, err)
		}
	}
	for _, per := range []int{3, 65, 0, -1, math.MaxInt, math.MinInt} {
		if got, err := limit.Fits(api.Batch{}, per); got || err != api.ErrArg {
			t.Errorf("Fits in %d: %t, %d", per, got, err)
		}
	}
	if got, err := limit.Fits(api.Batch{}, 4); got || err != api.ErrRec {
		t.Errorf("Fits of no batch: %t, %d", got, err)
	}
}

func TestWhatFitsFitsWithARecordLess(t *testing.T) {
	for bytes := 120; bytes < 600; bytes += 7 {
		b := sized(t, bytes)
		for per := 4; per < 16; per++ {
			fits, _ := limit.Fits(b, per)
			if more, _ := limit.Fits(b, per+1); fits && !more {
				t.Errorf("%d bytes fit %d, not %d", bytes, per, per+1)
			}
			less := b
			less.Recs = b.Recs[1:]
			if fewer, err := limit.Fits(less, per); fits && len(b.Recs) > 1 && !fewer {
				t.Errorf("%d bytes fit %d, not with a record less: %d", bytes, per, err)
			}
		}
	}
}
