package recover_test

import (
	"math"
	"math/rand"
	"slices"
	"strings"
	"testing"

	"moraine/api"
	"moraine/frame"
	"moraine/rec"
	"moraine/recover"
	"moraine/table"
)

func root(name string, id int) api.Rec { return api.Rec{Kind: api.RRoot, Name: name, ID: id} }

func put(id, n int) api.Rec {
	return api.Rec{Kind: api.RPut, Obj: api.Obj{ID: id, Vals: []api.Val{{Kind: api.Num, N: n}}}}
}

func class() api.Rec { return api.Rec{Kind: api.RClass, Class: api.Class{Name: "c"}} }

func commit(n, next int, l ...api.Rec) api.Batch {
	return api.Batch{Kind: api.BCommit, N: n, Next: next, Recs: l}
}

func copies(n, next int, vers []int, l ...api.Rec) api.Batch {
	return api.Batch{Kind: api.BCopy, N: n, Next: next, Recs: l, Vers: vers}
}

// piece is a batch's, in an epoch's segment.
func piece(t *testing.T, epoch int, b api.Batch) api.Piece {
	t.Helper()
	s, err := rec.Encode(b)
	if err != api.OK {
		t.Fatalf("Encode of %v: %d", b, err)
	}
	return api.Piece{Epoch: epoch, S: s}
}

func fact(n, epoch int, r api.Rec) api.Fact { return api.Fact{N: n, Epoch: epoch, Rec: r} }

func TestFacts(t *testing.T) {
	p := func(epoch int, b api.Batch) api.Piece { return piece(t, epoch, b) }
	for i, x := range []struct {
		l       []api.Piece
		want    []api.Fact
		n, next int
	}{
		{nil, nil, 0, 1},
		{[]api.Piece{p(1, commit(1, 1, class())), p(4, copies(1, 1, []int{1}, class()))}, []api.Fact{fact(1, 4, class())}, 1, 1},
		{[]api.Piece{p(1, commit(1, 3, put(1, 5), root("a", 1))), p(1, commit(4, 3, put(1, 6))), p(2, copies(4, 3, []int{1}, root("a", 1))), p(2, commit(5, 9, class(), put(7, 7)))}, []api.Fact{fact(1, 1, put(1, 5)), fact(1, 2, root("a", 1)), fact(4, 1, put(1, 6)), fact(5, 2, class()), fact(5, 2, put(7, 7))}, 5, 9},
		{[]api.Piece{p(3, commit(1, 2, put(1, 5))), p(api.MaxEpoch, copies(9, 2, []int{1}, put(1, 77)))}, []api.Fact{fact(1, api.MaxEpoch, put(1, 77))}, 9, 2},
		{[]api.Piece{p(1, copies(7, 50, nil))}, nil, 7, 50},
		{[]api.Piece{p(1, copies(7, 50, []int{2, 7}, root("b", 1), root("a", 1))), p(1, copies(7, 50, nil)), p(1, commit(8, 51, root("a", 0)))}, []api.Fact{fact(2, 1, root("b", 1)), fact(7, 1, root("a", 1)), fact(8, 1, root("a", 0))}, 8, 51},
	} {
		got, n, next, err := recover.Facts(x.l)
		if !table.Same(got, x.want) || n != x.n || next != x.next || err != api.OK {
			t.Errorf("case %d: %v, %d, %d, %d", i, got, n, next, err)
		}
	}
}

func TestFactsRefuses(t *testing.T) {
	p := func(epoch int, b api.Batch) api.Piece { return piece(t, epoch, b) }
	one, two := commit(1, 2, root("a", 1)), commit(2, 2, root("a", 0))
	for i, l := range [][]api.Piece{
		{p(0, one)}, {p(-1, one)}, {p(api.MaxEpoch+1, one)}, {p(2, one), p(1, two)}, {p(1, two), p(1, one)}, {p(1, one), p(1, one)}, {p(1, copies(2, 2, nil)), p(1, two)}, {p(1, two), p(1, copies(1, 2, nil))}, {p(1, copies(2, 2, nil)), p(1, copies(1, 2, nil))},
		{p(1, commit(1, 9, root("a", 1))), p(1, two)}, {p(1, commit(1, 9, root("a", 1))), p(1, copies(1, 8, nil))}, {{Epoch: 1, S: ""}}, {{Epoch: 1, S: "x"}}, {p(1, one), {Epoch: 1, S: p(1, two).S + "x"}}, {p(1, one), {Epoch: 1, S: p(1, two).S[1:]}}, {p(1, one), p(math.MinInt, two)},
	} {
		got, n, next, err := recover.Facts(l)
		if len(got) > 0 || n != 0 || next != 0 || err != api.ErrRecover {
			t.Errorf("case %d: %v, %d, %d, %d", i, got, n, next, err)
		}
	}
}

// large is an object's record of about 60 bytes for each 60 that are asked for.
func large(id, bytes int) api.Rec {
	r := api.Rec{Kind: api.RPut, Obj: api.Obj{ID: id}}
	for ; bytes > 0; bytes -= 60 {
		r.Obj.Vals = append(r.Obj.Vals, api.Val{Kind: api.Text, S: strings.Repeat("x", min(60, bytes))})
	}
	return r
}

func TestBatches(t *testing.T) {
	l := []api.Fact{fact(1, 3, class()), fact(1, 3, large(1, 50)), fact(2, 9, large(2, 50)), fact(3, 1, root("a", 1))}
	got, err := recover.Batches(l, 7, 3, 4)
	want := []api.Batch{copies(7, 3, []int{1, 1}, class(), large(1, 50)), copies(7, 3, []int{2, 3}, large(2, 50), root("a", 1))}
	if !slices.EqualFunc(got, want, rec.Same) || err != api.OK {
		t.Errorf("Batches: %v, %d", got, err)
	}
	got[0].Recs[1].Obj.Vals[0].S, got[0].Recs[0].Class.Name = "q", "q"
	if l[1].Rec.Obj.Vals[0].S == "q" {
		t.Error("what was handed in has changed")
	}
	for i, x := range []struct {
		l            []api.Fact
		n, next, per int
		want         api.Errno
		batches      int
	}{
		{l, 3, 3, 4, api.OK, 2}, {l, 3, 3, 5, api.OK, 1}, {nil, 0, 1, 4, api.OK, 0}, {nil, 1000000, api.MaxID + 1, 64, api.OK, 0}, {[]api.Fact{fact(1, 0, large(1, 85))}, 1, 2, 4, api.OK, 1}, {[]api.Fact{fact(1, 0, large(1, 86))}, 1, 2, 4, api.ErrBig, 0},
		{[]api.Fact{{}}, -1, 0, 3, api.ErrArg, 0}, {l, 3, 3, 65, api.ErrArg, 0}, {[]api.Fact{{}}, -1, 0, 4, api.ErrTable, 0}, {l, 2, 3, 4, api.ErrArg, 0}, {nil, -1, 1, 4, api.ErrArg, 0}, {l, 1000001, 3, 4, api.ErrArg, 0}, {l, 3, 0, 4, api.ErrArg, 0}, {l, 3, api.MaxID + 2, 4, api.ErrArg, 0}, {l, 3, 2, 4, api.ErrArg, 0},
		{[]api.Fact{fact(1, 0, large(1, 120))}, 1, 2, 4, api.ErrBig, 0}, {[]api.Fact{fact(1, 0, large(1, 120))}, 1, 1, 4, api.ErrArg, 0}, {[]api.Fact{fact(1, 0, root("a", 1)), fact(2, 0, large(1, 120))}, 2, 2, 4, api.ErrBig, 0}, {[]api.Fact{fact(1, 0, large(1, 120))}, 1, 2, 5, api.OK, 1},
	} {
		got, err := recover.Batches(x.l, x.n, x.next, x.per)
		if err != x.want || x.batches > 0 && len(got) != x.batches || err != api.OK && len(got) > 0 {
			t.Errorf("case %d: %d batches, %d", i, len(got), err)
		}
	}
}

func TestTheLargestFactThatFits(t *testing.T) {
	fits := 0
	for bytes := 80; bytes < 100; bytes++ {
		l := []api.Fact{fact(1000000, 0, large(1, bytes))}
		size, _ := rec.Size(l[0].Rec)
		got, err := recover.Batches(l, 1000000, api.MaxID+1, 4)
		if (err == api.OK) != (size+3 <= 95) {
			t.Errorf("%d bytes: %d", size+3, err)
		}
		if err == api.OK {
			fits++
			if s, err := rec.Encode(got[0]); frame.Need(len(s)) > 2 || err != api.OK {
				t.Errorf("%d bytes take %d frames, %d", size+3, frame.Need(len(s)), err)
			}
		}
	}
	if fits == 0 || fits == 20 {
		t.Errorf("%d fit", fits)
	}
}

// history are random commits, as batches.
func history(r *rand.Rand) []api.Batch {
	var l []api.Batch
	n, next := 0, 1
	for range 1 + r.Intn(6) {
		n += 1 + r.Intn(2)
		var recs []api.Rec
		for id := 1; id <= 4; id++ {
			if r.Intn(2) == 0 {
				recs = append(recs, large(id, r.Intn(60)))
				next = max(next, id+1)
			}
		}
		l = append(l, commit(n, next, append(recs, root("a", r.Intn(5)))...))
	}
	return l
}

func TestFactsOfCommitsAreWhatPutMakesOfThem(t *testing.T) {
	r := rand.New(rand.NewSource(24))
	for range 300 {
		var pieces []api.Piece
		var want []api.Fact
		for i, b := range history(r) {
			pieces = append(pieces, piece(t, 1+i/2, b))
			for _, one := range b.Recs {
				want, _ = table.Put(want, fact(b.N, 1+i/2, one))
			}
			got, n, next, err := recover.Facts(pieces)
			if !table.Same(got, want) || n != b.N || next != b.Next || err != api.OK {
				t.Fatalf("%v, %d, %d, %d, want %v", got, n, next, err, want)
			}
		}
		checkCopies(t, r, pieces, want)
	}
}

// checkCopies lays copies of some facts behind the pieces, and copies of all alone.
func checkCopies(t *testing.T, r *rand.Rand, pieces []api.Piece, facts []api.Fact) {
	t.Helper()
	_, n, next, _ := recover.Facts(pieces)
	for _, all := range []bool{false, true} {
		some := slices.DeleteFunc(slices.Clone(facts), func(api.Fact) bool { return !all && r.Intn(2) == 0 })
		batches, err := recover.Batches(some, n, next, 4)
		laid := slices.Clone(pieces)
		if all {
			laid = nil
		}
		for _, b := range batches {
			s, encodeErr := rec.Encode(b)
			if frame.Need(len(s)) > 2 || encodeErr != api.OK {
				t.Fatalf("a batch of %d bytes, %d", len(s), encodeErr)
			}
			laid = append(laid, api.Piece{Epoch: 9, S: s})
		}
		got, n2, next2, factsErr := recover.Facts(laid)
		for i := range got {
			got[i].Epoch = facts[min(i, len(facts)-1)].Epoch
		}
		if !table.Same(got, facts) || n2 != n || next2 != next || err != api.OK || factsErr != api.OK {
			t.Fatalf("behind copies: %v, %d, %d, want %v, %d, %d", got, n2, next2, facts, n, next)
		}
	}
}
