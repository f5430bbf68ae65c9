package sweep_test

import (
	"math"
	"math/rand"
	"slices"
	"strings"
	"testing"

	"moraine/api"
	"moraine/rec"
	"moraine/sweep"
	"moraine/table"
	"moraine/wire"
)

// sized is a fact of so many bytes, from 6 on to 24 (and of the number n below 64): a snapshot's name that begins with a letter of its own.
func sized(n, epoch, bytes int, letter string) api.Fact {
	return api.Fact{N: n, Epoch: epoch, Rec: api.Rec{Kind: api.RSnap, Name: letter + strings.Repeat("x", bytes-5)}}
}

// large is a fact of so many bytes, from 40 on: an object with texts.
func large(n, epoch, bytes, id int) api.Fact {
	f := api.Fact{N: n, Epoch: epoch, Rec: api.Rec{Kind: api.RPut, Obj: api.Obj{ID: id}}}
	for measure(f) < bytes {
		left := bytes - measure(f)
		f.Rec.Obj.Vals = append(f.Rec.Obj.Vals, api.Val{Kind: api.Text, S: strings.Repeat("y", max(0, min(60, left-2)))})
	}
	return f
}

func measure(f api.Fact) int {
	size, _ := rec.Size(f.Rec)
	return len(wire.Num(f.N)) + size
}

func use(epoch int) api.Use { return api.Use{Epoch: epoch, Sectors: 4} }

func TestMeasures(t *testing.T) {
	if got := measure(sized(1, 1, 17, "a")); got != 17 {
		t.Errorf("a small fact: %d", got)
	}
	for _, bytes := range []int{40, 90, 95, 96, 120} {
		if got := measure(large(1, 1, bytes, 3)); got != bytes {
			t.Errorf("a large fact of %d: %d", bytes, got)
		}
	}
}

func TestLeast(t *testing.T) {
	for i, x := range []struct {
		sizes []int
		per   int
		want  int
	}{{nil, 4, 0}, {[]int{40, 40, 40}, 4, 2}, {[]int{40, 55, 95}, 4, 2}, {[]int{40, 56, 95}, 4, 3}, {[]int{96, 40}, 4, 2}, {[]int{40, 120, 40, 40}, 4, 3}, {[]int{40, 40, 40, 28}, 5, 1}, {[]int{40, 40, 40, 40}, 5, 2}, {slices.Repeat([]int{90}, 37), 64, 2}, {slices.Repeat([]int{90}, 36), 64, 1}} {
		var l []api.Fact
		for k, size := range x.sizes {
			l = append(l, large(1, 1, size, k+1))
		}
		if got, err := sweep.Least(l, x.per); got != x.want || err != api.OK {
			t.Errorf("case %d: %d, %d", i, got, err)
		}
	}
	good := []api.Fact{sized(1, 1, 9, "a")}
	for i, x := range []struct {
		l    []api.Fact
		per  int
		want api.Errno
	}{{good, 3, api.ErrArg}, {good, 65, api.ErrArg}, {[]api.Fact{{}}, -1, api.ErrArg}, {[]api.Fact{{}}, 4, api.ErrTable}, {good, math.MaxInt, api.ErrArg}} {
		n, err := sweep.Least(x.l, x.per)
		epochs, copies, planErr := sweep.Plan([]api.Use{{}}, x.l, x.per, -1)
		rest, restErr := sweep.Rest([]api.Use{{}}, x.l, x.per)
		if n != 0 || err != x.want || len(epochs)+len(copies) > 0 || planErr != x.want || rest || restErr != x.want {
			t.Errorf("wrong case %d: %d, %d, %d, %d", i, n, err, planErr, restErr)
		}
	}
}

// plans checks a plan: its epochs, and how many facts are copied.
func plans(t *testing.T, name string, l []api.Use, need []api.Fact, room int, want []int) {
	t.Helper()
	epochs, copies, err := sweep.Plan(l, need, 4, room)
	var all []api.Fact
	for _, f := range need {
		if slices.Contains(want, f.Epoch) {
			all = append(all, f)
		}
	}
	if !slices.Equal(epochs, want) || !table.Same(copies, all) || err != api.OK {
		t.Errorf("%s: %v, %v, %d, want %v", name, epochs, copies, err, want)
	}
}

func TestPlan(t *testing.T) {
	four := []api.Use{use(1), use(2), use(3), use(4)}
	example := []api.Fact{sized(1, 1, 15, "a"), sized(1, 1, 15, "b"), large(2, 2, 90, 1), sized(3, 3, 15, "a"), sized(3, 3, 15, "b"), large(4, 4, 90, 2)}
	plans(t, "the example", four, example, 1, []int{1, 3})
	plans(t, "no room", four, example, 0, nil)
	plans(t, "in their order they fill three", four, example, math.MaxInt, []int{1, 3})
	two := []api.Fact{large(1, 1, 45, 1), large(2, 2, 50, 1), large(3, 3, 90, 1)}
	plans(t, "much room", four, two, math.MaxInt, []int{1, 2, 3})
	plans(t, "room for one", four, two, 1, []int{1, 2})
	plans(t, "nothing is needed", four, nil, 0, []int{1, 2, 3})
	plans(t, "no segments", nil, nil, 5, nil)
	plans(t, "one segment", four[:1], nil, 5, nil)
	plans(t, "one of nothing", four, example[2:], 0, []int{1})
	plans(t, "the last one is left", four[:2], []api.Fact{sized(1, 2, 9, "a")}, 1, []int{1})
	plans(t, "one alone is no gain", four[:2], []api.Fact{sized(1, 1, 9, "a")}, 1, nil)
	never := []api.Fact{large(1, 1, 96, 1), sized(2, 2, 9, "a"), sized(3, 3, 9, "a")}
	plans(t, "one that never fits", four, never, 1, []int{2, 3})
	plans(t, "and just that", four[:3], never, 5, nil)
	all := []api.Fact{large(1, 1, 50, 1), large(1, 2, 50, 2), large(1, 3, 50, 3)}
	plans(t, "a greater number that would do", four, all, 2, nil)
	plans(t, "as much by lesser epochs", []api.Use{use(5), use(7), use(9), use(11)}, []api.Fact{large(1, 5, 45, 1), large(1, 7, 45, 2), large(1, 9, 45, 3)}, 1, []int{5, 7})
	plans(t, "epochs rising, whatever their order", []api.Use{use(5), use(7), use(9)}, []api.Fact{large(1, 5, 45, 1), sized(1, 7, 9, "a")}, 1, []int{5, 7})
}

func TestPlanAndRestRefuse(t *testing.T) {
	need := []api.Fact{sized(1, 2, 9, "a")}
	good := []api.Use{use(1), use(2)}
	if _, _, err := sweep.Plan([]api.Use{{}}, need, 4, -1); err != api.ErrArg {
		t.Errorf("no room, and wrong uses: %d", err)
	}
	for i, x := range []struct {
		l    []api.Use
		need []api.Fact
	}{
		{nil, need}, {good[:1], need}, {[]api.Use{use(2), use(1)}, need}, {[]api.Use{use(2), use(2)}, need}, {[]api.Use{use(0), use(2)}, need}, {[]api.Use{use(-1), use(2)}, need}, {[]api.Use{use(2), use(api.MaxEpoch + 1)}, need}, {[]api.Use{{Epoch: 2, Sectors: 0}}, need}, {[]api.Use{{Epoch: 2, Sectors: 65}}, need},
		{good, []api.Fact{sized(1, 0, 9, "a")}}, {[]api.Use{{Epoch: 2, Sectors: -1}}, nil},
	} {
		epochs, copies, err := sweep.Plan(x.l, x.need, 4, 1)
		rest, restErr := sweep.Rest(x.l, x.need, 4)
		if len(epochs)+len(copies) > 0 || err != api.ErrSweep || rest || restErr != api.ErrSweep {
			t.Errorf("case %d: %v, %d, %t, %d", i, epochs, err, rest, restErr)
		}
	}
	edge := []api.Use{{Epoch: 1, Sectors: 1}, {Epoch: 2, Sectors: 64}, {Epoch: api.MaxEpoch, Sectors: 64}}
	if rest, err := sweep.Rest(edge, need, 4); !rest || err != api.OK {
		t.Errorf("uses at the edge: %t, %d", rest, err)
	}
}

func TestRest(t *testing.T) {
	uses := []api.Use{use(1), use(2), use(3), use(4), use(5), use(6)}
	for i, x := range []struct {
		l    []api.Use
		need []api.Fact
		want bool
	}{
		{nil, nil, true}, {uses[:1], nil, true}, {uses[:2], nil, false}, {uses[:3], []api.Fact{sized(1, 1, 9, "a")}, true}, {uses[:4], []api.Fact{sized(1, 1, 9, "a")}, false}, {uses[:5], []api.Fact{large(1, 1, 90, 1), large(1, 1, 90, 2)}, true}, {uses, []api.Fact{large(1, 1, 90, 1), large(1, 1, 90, 2)}, false},
	} {
		if got, err := sweep.Rest(x.l, x.need, 4); got != x.want || err != api.OK {
			t.Errorf("case %d: %t, %d", i, got, err)
		}
	}
}

func TestNothingIsShared(t *testing.T) {
	need := []api.Fact{large(1, 1, 45, 1), large(1, 2, 45, 2)}
	_, copies, _ := sweep.Plan([]api.Use{use(1), use(2), use(3)}, need, 4, 1)
	copies[0].Rec.Obj.Vals[0].S = "q"
	if need[0].Rec.Obj.Vals[0].S == "q" {
		t.Error("what was handed in has changed")
	}
}

// TestCollectingComesToRest does plan by plan what a store does with them.
func TestCollectingComesToRest(t *testing.T) {
	r := rand.New(rand.NewSource(22))
	for range 300 {
		var uses []api.Use
		var need []api.Fact
		for epoch := 1; epoch <= 2+r.Intn(9); epoch++ {
			uses = append(uses, use(epoch))
			for k := range r.Intn(3) {
				need = append(need, large(epoch, epoch, 40+r.Intn(56), 1+k))
			}
		}
		newest := len(uses)
		for turn := 0; ; turn++ {
			if rest, _ := sweep.Rest(uses, need, 4); rest {
				break
			}
			epochs, copies, err := sweep.Plan(uses, need, 4, 1)
			if err != api.OK || len(epochs) == 0 || turn > 50 {
				t.Fatalf("%v, %v: planned %v, %d", uses, need, epochs, err)
			}
			if n, _ := sweep.Least(copies, 4); n >= len(epochs) || n > 1 {
				t.Fatalf("%d segments for %d", n, len(epochs))
			}
			uses = slices.DeleteFunc(uses, func(u api.Use) bool { return slices.Contains(epochs, u.Epoch) })
			if len(copies) > 0 {
				newest++
				uses = append(uses, use(newest))
			}
			for i := range need {
				if slices.Contains(epochs, need[i].Epoch) {
					need[i].Epoch = newest
				}
			}
		}
	}
}
