package index_test

import (
	"cmp"
	"math"
	"math/rand"
	"slices"
	"testing"

	"moraine/api"
	"moraine/index"
	"moraine/val"
)

func num(n int) api.Val { return api.Val{Kind: api.Num, N: n} }

func text(s string) api.Val { return api.Val{Kind: api.Text, S: s} }

// finds checks what is found of a range.
func finds(t *testing.T, x *index.Index, low, high api.Val, want ...int) {
	t.Helper()
	if got := x.Range(low, high); !slices.Equal(got, want) {
		t.Errorf("Range of %v to %v: %v, want %v", low, high, got, want)
	}
	if val.Same(low, high) {
		if got := x.Find(low); !slices.Equal(got, want) {
			t.Errorf("Find of %v: %v, want %v", low, got, want)
		}
	}
}

func TestTheExample(t *testing.T) {
	x := index.New()
	for _, p := range [][2]int{{5, 2}, {5, 1}, {7, 3}} {
		if err := x.Put(num(p[0]), p[1]); err != api.OK {
			t.Errorf("Put %v: %d", p, err)
		}
	}
	finds(t, x, num(5), num(5), 1, 2)
	finds(t, x, num(5), num(7), 1, 2, 3)
	finds(t, x, num(6), num(6))
	finds(t, x, num(7), num(5))
	finds(t, x, num(6), num(100), 3)
	finds(t, x, api.Val{}, text(""), 1, 2, 3)
	if x.Len() != 3 {
		t.Errorf("Len: %d", x.Len())
	}
}

func TestPutAndDropRefuse(t *testing.T) {
	x := index.New()
	list := api.Val{Kind: api.List, L: []api.Val{num(1)}}
	for i, p := range []struct {
		v    api.Val
		id   int
		want api.Errno
	}{
		{num(5), 1, api.OK}, {num(5), 1, api.ErrIndex}, {num(5), 2, api.OK}, {num(6), 1, api.OK}, {text("5"), 1, api.OK}, {api.Val{}, 1, api.OK}, {api.Val{}, 1, api.ErrIndex}, {list, api.MaxID, api.OK}, {list, api.MaxID, api.ErrIndex},
		{num(5), 0, api.ErrArg}, {num(5), -1, api.ErrArg}, {num(5), api.MaxID + 1, api.ErrArg}, {num(5), math.MinInt, api.ErrArg}, {num(api.MaxNum + 1), 1, api.ErrArg}, {api.Val{Kind: 9}, 1, api.ErrArg}, {api.Val{N: 3}, 1, api.ErrArg},
	} {
		if err := x.Put(p.v, p.id); err != p.want {
			t.Errorf("case %d: %d", i, err)
		}
	}
	list.L[0].N = 2
	finds(t, x, list, list)
	list.L[0].N = 1
	finds(t, x, list, list, api.MaxID)
	wrong := api.Val{Kind: 9}
	if x.Drop(wrong, 1) || x.Drop(num(5), 3) || x.Drop(num(7), 1) || x.Drop(num(5), 0) || !x.Drop(num(5), 1) || x.Drop(num(5), 1) || x.Len() != 5 {
		t.Errorf("Drop, or Len: %d", x.Len())
	}
	finds(t, x, wrong, wrong)
	finds(t, x, num(0), wrong)
	finds(t, x, wrong, list)
	finds(t, x, num(5), num(5), 2)
}

func TestNilIndex(t *testing.T) {
	var x *index.Index
	if x.Put(api.Val{Kind: 9}, 0) != api.ErrNil || x.Drop(num(1), 1) || len(x.Find(num(1))) > 0 || len(x.Range(num(1), num(2))) > 0 || x.Len() != 0 {
		t.Error("an index that is none does something")
	}
}

// entry is a pair as a plain list has it.
type entry struct {
	v  api.Val
	id int
}

func TestIndexIsAsAPlainList(t *testing.T) {
	r := rand.New(rand.NewSource(15))
	some := func() api.Val {
		return []api.Val{num(r.Intn(6)), text(string(rune('a' + r.Intn(4)))), {Kind: api.Ref, N: 1 + r.Intn(3)}, {}, {Kind: api.List, L: []api.Val{num(r.Intn(3))}}}[r.Intn(5)]
	}
	for range 100 {
		x, plain := index.New(), []entry{}
		for range 200 {
			e := entry{some(), 1 + r.Intn(6)}
			at := slices.IndexFunc(plain, func(o entry) bool { return val.Same(o.v, e.v) && o.id == e.id })
			if r.Intn(3) > 0 {
				if err := x.Put(e.v, e.id); (err == api.ErrIndex) != (at >= 0) {
					t.Fatalf("Put of %v: %d", e, err)
				}
				if at < 0 {
					plain = append(plain, e)
				}
			} else {
				if x.Drop(e.v, e.id) != (at >= 0) {
					t.Fatalf("Drop of %v", e)
				}
				if at >= 0 {
					plain = slices.Delete(plain, at, at+1)
				}
			}
			low, high := some(), some()
			slices.SortFunc(plain, func(a, b entry) int { return cmp.Or(val.Compare(a.v, b.v), cmp.Compare(a.id, b.id)) })
			var want []int
			for _, o := range plain {
				if val.Compare(o.v, low) >= 0 && val.Compare(o.v, high) <= 0 {
					want = append(want, o.id)
				}
			}
			finds(t, x, low, high, want...)
			if x.Len() != len(plain) {
				t.Fatalf("Len: %d, want %d", x.Len(), len(plain))
			}
		}
	}
}

func TestOrderOfPutsMakesNoDifference(t *testing.T) {
	for _, step := range []int{1, 99999, 7919} {
		x := index.New()
		for i := range 100000 {
			n := i * step % 100000
			if err := x.Put(num(n/10), 1+n); err != api.OK {
				t.Fatalf("Put: %d", err)
			}
		}
		finds(t, x, num(5), num(5), 51, 52, 53, 54, 55, 56, 57, 58, 59, 60)
		for i := range 99990 {
			if n := i * step % 100000; !x.Drop(num(n/10), 1+n) {
				t.Fatalf("Drop of %d", n)
			}
		}
		if x.Len() != 10 {
			t.Errorf("Len: %d", x.Len())
		}
	}
}
