package parts_test

import (
	"testing"

	"moraine/api"
	"moraine/parts"
	"moraine/val"
)

func TestPartsAreReadOneBehindTheOther(t *testing.T) {
	r := parts.New("x\x04\x02a\x02\x02y", 1)
	n, s, v := r.Num(), r.Text(), parts.Next(r, val.Decode)
	to, ok := r.End()
	if n != 2 || s != "a" || !val.Same(v, api.Val{Kind: api.Num, N: 1}) || to != 6 || !ok {
		t.Errorf("%d, %q, %v, %d, %t", n, s, v, to, ok)
	}
}

func TestBehindWhatIsWrongAllIsZero(t *testing.T) {
	r := parts.New("\x04\x80\x00\x04", 0)
	if a, b, c := r.Num(), r.Num(), r.Num(); a != 2 || b != 0 || c != 0 {
		t.Errorf("%d, %d, %d", a, b, c)
	}
	if _, ok := r.End(); ok {
		t.Error("nothing was wrong")
	}
}
