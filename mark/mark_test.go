package mark_test

import (
	"math"
	"math/rand"
	"slices"
	"testing"

	"moraine/api"
	"moraine/mark"
)

func made(t *testing.T, roots ...int) *mark.Marker {
	t.Helper()
	m, err := mark.New(roots)
	if m == nil || err != api.OK {
		t.Fatalf("New(%v): %d", roots, err)
	}
	return m
}

// next checks which number is next; 0: none.
func next(t *testing.T, m *mark.Marker, want int) {
	t.Helper()
	if id, ok := m.Next(); id != want || ok != (want != 0) || m.Done() != (want == 0) {
		t.Errorf("Next: %d, %t, done %t, want %d", id, ok, m.Done(), want)
	}
}

func scanned(t *testing.T, m *mark.Marker, id int, refs ...int) {
	t.Helper()
	if err := m.Scan(id, refs); err != api.OK {
		t.Errorf("Scan of %d: %d", id, err)
	}
}

func marked(t *testing.T, m *mark.Marker, want ...int) {
	t.Helper()
	if got := m.Marked(); !slices.Equal(got, want) {
		t.Errorf("Marked: %v, want %v", got, want)
	}
}

func TestTheExamples(t *testing.T) {
	m := made(t, 5, 2)
	next(t, m, 2)
	marked(t, m, 2, 5)
	scanned(t, m, 2, 7)
	next(t, m, 5)
	scanned(t, m, 5, 2, 5)
	next(t, m, 7)
	scanned(t, m, 7)
	next(t, m, 0)
	marked(t, m, 2, 5, 7)
	if err := m.Scan(7, nil); err != api.ErrMark {
		t.Errorf("Scan of what is black: %d", err)
	}
	if err := m.Wrote([]int{1, 2}); err != api.OK {
		t.Errorf("Wrote: %d", err)
	}
	next(t, m, 1)
	marked(t, m, 1, 2, 5, 7)
}

func TestScansInAnyTurn(t *testing.T) {
	m := made(t, 9, 3, 3, 6, api.MaxID)
	scanned(t, m, 6, 4, 6, 4)
	next(t, m, 3)
	scanned(t, m, 3)
	scanned(t, m, 9, 9)
	next(t, m, 4)
	scanned(t, m, 4, 2)
	next(t, m, 2)
	scanned(t, m, api.MaxID)
	scanned(t, m, 2, 9, 3)
	next(t, m, 0)
	marked(t, m, 2, 3, 4, 6, 9, api.MaxID)
}

func TestNothingToMark(t *testing.T) {
	m := made(t)
	next(t, m, 0)
	marked(t, m)
}

func TestWrongNumbers(t *testing.T) {
	for _, id := range []int{0, -1, api.MaxID + 1, math.MinInt, math.MaxInt} {
		if m, err := mark.New([]int{1, id}); m != nil || err != api.ErrArg {
			t.Errorf("New of %d: %d", id, err)
		}
		m := made(t, 5)
		if err := m.Scan(id, nil); err != api.ErrMark {
			t.Errorf("Scan of %d: %d", id, err)
		}
		if err := m.Scan(5, []int{7, id}); err != api.ErrArg {
			t.Errorf("Scan with %d: %d", id, err)
		}
		if err := m.Scan(6, []int{id}); err != api.ErrMark {
			t.Errorf("Scan of what is white, with %d: %d", id, err)
		}
		if err := m.Wrote([]int{7, id}); err != api.ErrArg {
			t.Errorf("Wrote of %d: %d", id, err)
		}
		next(t, m, 5)
		marked(t, m, 5)
	}
}

func TestNilMarker(t *testing.T) {
	var m *mark.Marker
	if m.Scan(0, []int{0}) != api.ErrNil || m.Wrote([]int{0}) != api.ErrNil {
		t.Error("a marker that is none does something")
	}
	next(t, m, 0)
	marked(t, m)
}

// reached is what is reached from roots.
func reached(refs map[int][]int, roots ...int) map[int]bool {
	seen := map[int]bool{}
	var see func(ids ...int)
	see = func(ids ...int) {
		for _, id := range ids {
			if !seen[id] {
				seen[id] = true
				see(refs[id]...)
			}
		}
	}
	see(roots...)
	return seen
}

func TestAllThatIsReachedIsMarked(t *testing.T) {
	r := rand.New(rand.NewSource(19))
	for round := range 500 {
		refs := map[int][]int{}
		some := func() int { return 1 + r.Intn(20) }
		for id := 1; id <= 20; id++ {
			for range r.Intn(3) {
				refs[id] = append(refs[id], some())
			}
		}
		roots := []int{some(), some()}
		m := made(t, roots...)
		writes := round%2 == 1
		for !m.Done() {
			grey := slices.DeleteFunc(m.Marked(), func(id int) bool { return m.Scan(id, []int{0}) != api.ErrArg })
			id := grey[r.Intn(len(grey))]
			scanned(t, m, id, refs[id]...)
			if writes && r.Intn(2) == 0 {
				from, to := some(), some()
				refs[from] = []int{to, some()}
				m.Wrote(refs[from])
			}
			if writes && r.Intn(6) == 0 {
				roots[0] = some()
				m.Wrote(roots[:1])
			}
		}
		want := reached(refs, roots...)
		got := m.Marked()
		for id := range want {
			if !slices.Contains(got, id) {
				t.Fatalf("%d is reached, and not marked", id)
			}
		}
		if !writes && len(got) != len(want) {
			t.Fatalf("marked %v, reached %v", got, want)
		}
	}
}
