package kin_test

import (
	"testing"

	"moraine/api"
	"moraine/kin"
	"moraine/obj"
)

func example() api.Schema {
	num := api.Type{Kind: api.Num}
	return api.Schema{Lines: []api.Line{
		{First: api.Class{Name: "c"}},
		{First: api.Class{Name: "d", Fields: []api.Field{{Name: "a", Type: num}}}, Changes: []api.Change{{Kind: api.ChAdd, Name: "b", Type: num, Expr: "a*2"}, {Kind: api.ChDrop, Field: "a"}}},
	}}
}

func TestLatestIsWhatObjTells(t *testing.T) {
	s := example()
	k, err := kin.New(s)
	if err != api.OK {
		t.Fatalf("New: %d", err)
	}
	for class := -1; class < 4; class++ {
		for ver := -1; ver < 5; ver++ {
			for size := range 4 {
				for _, id := range []int{-1, 0, 1, api.MaxID, api.MaxID + 1} {
					o := api.Obj{ID: id, Class: class, Ver: ver}
					for i := range size {
						o.Vals = append(o.Vals, api.Val{Kind: api.Num, N: i + 4})
					}
					want, err := obj.Latest(s, o)
					got, ok := k.Latest(o)
					if !obj.Same(got, want) || ok != (err == api.OK) || k.Right(o) != ok {
						t.Errorf("%v is %v, %t, and should be %v, %d", o, got, ok, want, err)
					}
				}
			}
		}
	}
}

func TestWrongSchemas(t *testing.T) {
	if k, err := kin.New(api.Schema{Lines: []api.Line{{}}}); k != nil || err != api.ErrSchema {
		t.Errorf("New: %v, %d", k, err)
	}
}
