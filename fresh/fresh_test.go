package fresh_test

import (
	"testing"

	"moraine/api"
	"moraine/fresh"
	"moraine/val"
)

func TestValSharesNothing(t *testing.T) {
	v := api.Val{Kind: api.List, L: []api.Val{{N: 1}, {L: []api.Val{{S: "a"}}}}}
	got := fresh.Vals([]api.Val{v})
	if len(got) != 1 || !val.Same(got[0], v) {
		t.Errorf("the copy is %v", got)
	}
	got[0].L[1].L[0].S, got[0].L[0].N = "b", 2
	if v.L[1].L[0].S != "a" || v.L[0].N != 1 {
		t.Errorf("the copy is one with what it is of: %v", v)
	}
}
