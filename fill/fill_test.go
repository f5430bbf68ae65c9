package fill_test

import (
	"slices"
	"testing"

	"moraine/api"
	"moraine/fill"
)

// sized is a fact of so many bytes, from 5 on, of the number n.
func sized(n, bytes int) api.Fact {
	name := make([]byte, bytes-4)
	for i := range name {
		name[i] = 'a'
	}
	return api.Fact{N: n, Rec: api.Rec{Kind: api.RRoot, Name: string(name)}}
}

func TestSegments(t *testing.T) {
	if fill.Room(4) != 95 || fill.Room(64) != 62*53-11 {
		t.Errorf("Room: %d, %d", fill.Room(4), fill.Room(64))
	}
	if fill.RightPer(3) || !fill.RightPer(4) || !fill.RightPer(64) || fill.RightPer(65) {
		t.Error("RightPer")
	}
	if got := fill.Measures([]api.Fact{sized(1, 24), sized(64, 24), sized(63, 5)}); !slices.Equal(got, []int{24, 25, 5}) {
		t.Errorf("Measures: %v", got)
	}
	for _, x := range []struct{ sizes, want []int }{
		{nil, nil}, {[]int{5}, []int{1}}, {[]int{24, 24, 24, 23}, []int{4}}, {[]int{24, 24, 24, 24}, []int{3, 1}}, {[]int{24, 24, 24, 24, 24, 24, 24}, []int{3, 3, 1}}, {[]int{24, 24, 24, 23, 5}, []int{4, 1}}, {[]int{96, 200, 1}, []int{1, 1, 1}}, {[]int{1, 95, 200}, []int{1, 1, 1}},
	} {
		var got []int
		for from, to := range fill.Segments(x.sizes, 4) {
			got = append(got, to-from)
		}
		if !slices.Equal(got, x.want) {
			t.Errorf("%v: %v, want %v", x.sizes, got, x.want)
		}
		for range fill.Segments(x.sizes, 4) {
			break
		}
	}
}
