package group_test

import (
	"math"
	"slices"
	"strings"
	"testing"

	"moraine/api"
	"moraine/group"
	"moraine/rec"
	"moraine/table"
	"moraine/world"
)

func num(n int) api.Val { return api.Val{Kind: api.Num, N: n} }

func class() api.Class {
	return api.Class{Name: "c", Fields: []api.Field{{Name: "a", Type: api.Type{Kind: api.Num}}}}
}

func makeNew(n int) api.Op {
	return api.Op{Kind: api.OpNew, Class: "c", Vals: []api.Val{num(n)}}
}
func set(id, n int) api.Op {
	return api.Op{Kind: api.OpSet, ID: id, Name: "a", Val: num(n)}
}
func root(name string, id int) api.Op { return api.Op{Kind: api.OpRoot, Name: name, ID: id} }
func noRoot(name string) api.Op       { return api.Op{Kind: api.OpNoRoot, Name: name} }
func read(id int) api.Op              { return api.Op{Kind: api.OpRead, ID: id} }
func see(name string) api.Op          { return api.Op{Kind: api.OpReadRoot, Name: name} }

func txn(base int, ops ...api.Op) api.Txn { return api.Txn{Base: base, Ops: ops} }

func at(id, n int) api.Obj { return api.Obj{ID: id, Vals: []api.Val{num(n)}} }

// facts are those of commit 1: the class, object 1 with 5, root h of it; and of commits behind, each a record.
func facts(behind ...api.Rec) []api.Fact {
	l := []api.Fact{{N: 1, Epoch: 1, Rec: api.Rec{Kind: api.RClass, Class: class()}}, {N: 1, Epoch: 1, Rec: api.Rec{Kind: api.RPut, Obj: at(1, 5)}}, {N: 1, Epoch: 1, Rec: api.Rec{Kind: api.RRoot, Name: "h", ID: 1}}}
	for i, r := range behind {
		l = append(l, api.Fact{N: 2 + i, Epoch: 1, Rec: r})
	}
	return l
}

func put(o api.Obj) api.Rec               { return api.Rec{Kind: api.RPut, Obj: o} }
func rootRec(name string, id int) api.Rec { return api.Rec{Kind: api.RRoot, Name: name, ID: id} }

func commit(n, next int, recs ...api.Rec) api.Batch {
	return api.Batch{Kind: api.BCommit, N: n, Next: next, Recs: recs}
}

// groups checks what comes of a group.
func groups(t *testing.T, name string, l []api.Fact, n, next int, x []api.Txn, errs []api.Errno, batches ...api.Batch) {
	t.Helper()
	got, told, err := group.Group(l, n, next, x)
	if !slices.EqualFunc(got, batches, rec.Same) || !slices.Equal(told, errs) || err != api.OK {
		t.Errorf("%s: %v, %v, %d", name, got, told, err)
	}
}

func errs(l ...api.Errno) []api.Errno { return l }

func TestTheExample(t *testing.T) {
	seen, turned := txn(1, read(1), root("k", 1)), txn(1, set(1, 6))
	groups(t, "in this order", facts(), 1, 2, []api.Txn{seen, turned}, errs(0, 0), commit(2, 2, rootRec("k", 1)), commit(3, 2, put(at(1, 6))))
	groups(t, "the other way round", facts(), 1, 2, []api.Txn{turned, seen}, errs(0, api.ErrClash), commit(2, 2, put(at(1, 6))))
}

func TestGroup(t *testing.T) {
	groups(t, "nothing", facts(), 1, 2, nil, nil)
	groups(t, "nothing at first", nil, 0, 1, []api.Txn{txn(0)}, errs(0))
	groups(t, "a class at first", nil, 0, 1, []api.Txn{txn(0, api.Op{Kind: api.OpClass, Def: class()}, makeNew(3), root("h", -1))}, errs(0), commit(1, 2, facts()[0].Rec, put(at(1, 3)), rootRec("h", 1)))
	groups(t, "numbers go on behind n and next", facts(), 9, 50, []api.Txn{txn(1, makeNew(3)), txn(1, makeNew(4), makeNew(5))}, errs(0, 0), commit(10, 51, put(at(50, 3))), commit(11, 53, put(at(51, 4)), put(at(52, 5))))
	groups(t, "next that is too low", facts(), 1, 1, []api.Txn{txn(1, makeNew(3))}, errs(0), commit(2, 3, put(at(2, 3))))
	groups(t, "who only reads", facts(), 1, 2, []api.Txn{txn(1, read(1)), txn(0, see("z")), txn(1)}, errs(0, 0, 0))
	groups(t, "a base", facts(), 1, 2, []api.Txn{txn(-1, set(1, 1)), txn(2, set(1, 1)), txn(math.MinInt), txn(1, set(1, 1)), txn(2, set(1, 2))}, errs(api.ErrCommit, api.ErrCommit, api.ErrCommit, 0, api.ErrCommit), commit(2, 2, put(at(1, 1))))
	groups(t, "what op tells", facts(), 1, 2, []api.Txn{txn(1, read(2)), txn(1, api.Op{}), txn(1, noRoot("x")), txn(9, api.Op{}), txn(1, makeNew(1), root("k", -1)), txn(1, noRoot("k"))}, errs(api.ErrGone, api.ErrOp, api.ErrGone, api.ErrCommit, 0, api.ErrClash), commit(2, 3, put(at(2, 1)), rootRec("k", 2)))
	groups(t, "what it reads is new", facts(put(at(1, 6)), rootRec("k", 1)), 3, 2, []api.Txn{txn(1, read(1)), txn(2, read(1)), txn(2, see("k")), txn(3, see("k")), txn(1, see("h")), txn(0, see("h")), txn(2, noRoot("k")), txn(1, set(1, 7)), txn(3)}[:8], errs(api.ErrClash, 0, api.ErrClash, 0, 0, api.ErrClash, api.ErrClash, api.ErrClash))
	groups(t, "classes are read", facts(api.Rec{Kind: api.RChange, Ver: 1, Change: api.Change{Kind: api.ChIndex, Field: "a"}}), 2, 2, []api.Txn{txn(1, makeNew(1)), txn(1, set(1, 1)), txn(1, read(1)), txn(2, makeNew(1))}, errs(api.ErrClash, api.ErrClash, 0, 0), commit(3, 3, put(api.Obj{ID: 2, Ver: 1, Vals: []api.Val{num(1)}})))
	groups(t, "a clash behind an error", facts(put(at(1, 6))), 2, 2, []api.Txn{txn(0, read(1), read(9))}, errs(api.ErrGone))
	groups(t, "one that tells an error leaves nothing", facts(), 1, 2, []api.Txn{txn(1, makeNew(1), read(9)), txn(1, makeNew(2))}, errs(api.ErrGone, 0), commit(2, 3, put(at(2, 2))))
	groups(t, "the last number", facts(), 1000000, api.MaxID+1, []api.Txn{txn(1000000, set(1, 2)), txn(1000000, makeNew(2)), txn(1000000, root("k", 1))}, errs(0, api.ErrOp, 0), commit(1000001, api.MaxID+1, put(at(1, 2))), commit(1000002, api.MaxID+1, rootRec("k", 1)))
}

func TestGroupRefuses(t *testing.T) {
	for i, x := range []struct {
		l       []api.Fact
		n, next int
		t       []api.Txn
		want    api.Errno
	}{
		{[]api.Fact{{}}, -1, 0, nil, api.ErrTable}, {facts(), 0, 2, nil, api.ErrArg}, {nil, -1, 1, nil, api.ErrArg}, {facts(), 1000001, 2, nil, api.ErrArg}, {facts(), 1, 0, nil, api.ErrArg}, {facts(), 1, api.MaxID + 2, nil, api.ErrArg},
		{facts(), 1, 2, make([]api.Txn, 9), api.ErrArg}, {facts(), 1, 2, make([]api.Txn, 8), api.OK}, {nil, math.MaxInt, 1, nil, api.ErrArg}, {nil, 0, math.MinInt, nil, api.ErrArg},
	} {
		batches, told, err := group.Group(x.l, x.n, x.next, x.t)
		if err != x.want || len(batches) > 0 || err != api.OK && len(told) > 0 {
			t.Errorf("case %d: %v, %v, %d", i, batches, told, err)
		}
	}
}

func TestWorldsThatCanNotBe(t *testing.T) {
	l := []api.Fact{{N: 1, Epoch: 1, Rec: api.Rec{Kind: api.RClass, ID: 1, Class: class()}}}
	groups(t, "a schema that can't be", l, 1, 1, []api.Txn{txn(0), txn(5)}, errs(api.ErrTable, api.ErrCommit))
}

func TestACommitWithoutBytes(t *testing.T) {
	text := api.Class{Name: "t"}
	for _, name := range []string{"a", "b", "c", "d", "e", "f", "g", "h"} {
		text.Fields = append(text.Fields, api.Field{Name: name, Type: api.Type{Kind: api.List, Of: api.Text}})
	}
	long := api.Val{Kind: api.List, L: slices.Repeat([]api.Val{{Kind: api.Text, S: strings.Repeat("x", 60)}}, 12)}
	big := api.Op{Kind: api.OpNew, Class: "t", Vals: slices.Repeat([]api.Val{long}, 8)}
	def := api.Op{Kind: api.OpClass, Def: text}
	batches, told, err := group.Group(nil, 0, 1, []api.Txn{txn(0, def, big, big), txn(0, def, big), txn(0, see("x"))})
	if len(batches) != 1 || !slices.Equal(told, errs(api.ErrRec, 0, 0)) || err != api.OK || batches[0].N != 1 || batches[0].Next != 2 {
		t.Errorf("%d batches, %v, %d", len(batches), told, err)
	}
}

func TestNothingIsSharedNorWrittenInto(t *testing.T) {
	l := append(make([]api.Fact, 0, 9), facts()...)
	x := []api.Txn{txn(1, makeNew(7), root("k", -1))}
	batches, _, _ := group.Group(l, 1, 2, x)
	batches[0].Recs[0].Obj.Vals[0] = num(99)
	if !table.Same(l, facts()) || l[:4][3].N != 0 || x[0].Ops[0].Vals[0].N != 7 {
		t.Error("what was handed in has changed")
	}
}

// TestTransactionsLeaveWhatTheyWouldOneBehindTheOther does those that committed alone, each having seen all.
func TestTransactionsLeaveWhatTheyWouldOneBehindTheOther(t *testing.T) {
	x := []api.Txn{txn(1, set(1, 6)), txn(1, see("h"), root("k", 1)), txn(1, set(1, 7)), txn(0, makeNew(3)), txn(1, makeNew(4), root("h", -1)), txn(1, see("h")), txn(1, noRoot("k"))}
	batches, told, _ := group.Group(facts(), 1, 2, x)
	if !slices.Equal(told, errs(0, 0, api.ErrClash, api.ErrClash, 0, api.ErrClash, api.ErrClash)) {
		t.Fatalf("errors: %v", told)
	}
	l, n, next := facts(), 1, 2
	for i, one := range x {
		if told[i] != api.OK {
			continue
		}
		one.Base = n
		alone, _, err := group.Group(l, n, next, []api.Txn{one})
		if err != api.OK || len(alone) != 1 || !rec.Same(alone[0], batches[n-1]) {
			t.Fatalf("transaction %d alone: %v, %d", i, alone, err)
		}
		for _, r := range alone[0].Recs {
			l, _ = table.Put(l, api.Fact{N: alone[0].N, Rec: r})
		}
		n, next = alone[0].N, alone[0].Next
	}
	w, err := table.World(l, n)
	if id, ok := world.Root(w, "h"); id != 2 || !ok || err != api.OK {
		t.Errorf("root h: %d, %d", id, err)
	}
}
