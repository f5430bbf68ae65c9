package order_test

import (
	"testing"

	"moraine/api"
	"moraine/order"
)

func TestRecs(t *testing.T) {
	l := []api.Rec{
		{Kind: api.RClass}, {Kind: api.RClass, ID: 1}, {Kind: api.RChange, Ver: 1}, {Kind: api.RChange, Ver: 12}, {Kind: api.RChange, ID: 1, Ver: 1},
		{Kind: api.RPut, Obj: api.Obj{ID: 2}}, {Kind: api.RPut, Obj: api.Obj{ID: 10}}, {Kind: api.RRoot, Name: "a", ID: 9}, {Kind: api.RRoot, Name: "a_", ID: 1}, {Kind: api.RRoot, Name: "b"}, {Kind: api.RSnap, Name: "a", ID: 1}, {Kind: api.RSnap, Name: "b"},
	}
	for i, a := range l {
		for j, b := range l {
			want := 0
			if i < j {
				want = -1
			} else if i > j {
				want = 1
			}
			if got := order.Recs(a, b); got != want {
				t.Errorf("%v and %v: %d", a, b, got)
			}
		}
	}
	if order.Recs(api.Rec{Kind: api.RRoot, Name: "a", ID: 1}, api.Rec{Kind: api.RRoot, Name: "a"}) != 0 {
		t.Error("what a root is of makes a difference")
	}
}
