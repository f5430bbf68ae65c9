package rec_test

import (
	"strconv"
	"strings"
	"testing"

	"moraine/api"
	"moraine/rec"
	"moraine/wire"
)

func node() api.Class {
	return api.Class{Name: "node", Fields: []api.Field{{Name: "n", Type: api.Type{Kind: api.Num}}}}
}

func drop() api.Change { return api.Change{Kind: api.ChDrop, Field: "n"} }

func put(id int) api.Rec {
	return api.Rec{Kind: api.RPut, Obj: api.Obj{ID: id, Vals: []api.Val{{Kind: api.Num, N: id}}}}
}
func root(name string, id int) api.Rec { return api.Rec{Kind: api.RRoot, Name: name, ID: id} }
func snap(name string, id int) api.Rec { return api.Rec{Kind: api.RSnap, Name: name, ID: id} }
func class(id int) api.Rec             { return api.Rec{Kind: api.RClass, ID: id, Class: node()} }
func change(id, ver int) api.Rec {
	return api.Rec{Kind: api.RChange, ID: id, Ver: ver, Change: drop()}
}

// rights are right records, in their order, with their keys.
func rights() ([]api.Rec, []string) {
	return []api.Rec{class(0), class(7), change(0, 1), change(0, 12), change(7, 2), put(1), put(2), put(10), put(api.MaxID), root("a", 0), root("a_", api.MaxID), root("home", 7), snap("a", 1), snap("b", 0)},
		[]string{"c0", "c7", "h0.1", "h0.12", "h7.2", "o1", "o2", "o10", "o100000", "ra", "ra_", "rhome", "na", "nb"}
}

func with(r api.Rec, change func(r *api.Rec)) api.Rec {
	change(&r)
	return r
}

func wrongs() []api.Rec {
	all := []api.Rec{
		{}, {Kind: 6}, {Kind: -1, Name: "a"}, put(0), put(api.MaxID + 1), {Kind: api.RPut}, {Kind: api.RPut, Obj: api.Obj{ID: 1, Vals: []api.Val{{Kind: api.Ref, N: -1}}}},
		root("", 1), root("A", 1), root("a", -1), root("a", api.MaxID+1), class(-1), class(8), {Kind: api.RClass}, change(-1, 1), change(8, 1), change(0, 0), change(0, 13), {Kind: api.RChange, Ver: 1}, snap("", 1), snap("a", 2), snap("a", -1), snap("A", 0),
	}
	for _, r := range []api.Rec{put(1), root("a", 1), class(1), change(1, 1), snap("a", 1)} {
		for _, set := range []func(r *api.Rec){
			func(r *api.Rec) { r.Obj.Vals = []api.Val{{}} }, func(r *api.Rec) { r.Obj.ID = 5 }, func(r *api.Rec) { r.Obj.Class = 2 }, func(r *api.Rec) { r.ID = 1 }, func(r *api.Rec) { r.Ver = 1 }, func(r *api.Rec) { r.Name = "a" },
			func(r *api.Rec) { r.Class = node() }, func(r *api.Rec) { r.Class.Fields = node().Fields }, func(r *api.Rec) { r.Change = drop() },
		} {
			other := with(r, set)
			// What is set may be a field that this kind has.
			ok := other.Kind == api.RPut && other.ID == 0 && other.Ver == 0 && other.Name == "" && other.Class.Fields == nil && other.Change == (api.Change{})
			if !ok && !rec.SameRec(other, r) {
				all = append(all, other)
			}
		}
	}
	return all
}

func commit(n, next int, l ...api.Rec) api.Batch {
	return api.Batch{Kind: api.BCommit, N: n, Next: next, Recs: l}
}

func copies(n, next int, vers []int, l ...api.Rec) api.Batch {
	return api.Batch{Kind: api.BCopy, N: n, Next: next, Recs: l, Vers: vers}
}

// puts are records of so many objects, from 1 on.
func puts(n int) (l []api.Rec) {
	for i := range n {
		l = append(l, put(i+1))
	}
	return l
}

func rightBatches() []api.Batch {
	l, _ := rights()
	return []api.Batch{
		commit(1, 1, root("a", 0)), commit(5, api.MaxID+1, l...), commit(1<<60, 8, root("home", 7)), commit(1, 701, puts(700)...), commit(1, 2, root("b", api.MaxID)),
		copies(1, 1, nil), copies(3, 11, []int{1, 1, 2, 3, 3}, put(10), root("a", 1), class(0), put(2), snap("a", 0)), copies(2, 2, []int{1, 2}, put(1), put(1)), copies(2, 701, many(2, 700), puts(700)...),
	}
}

func many(n, times int) (l []int) {
	for range times {
		l = append(l, n)
	}
	return l
}

func wrongBatches() []api.Batch {
	a := root("a", 0)
	all := []api.Batch{
		{}, {Kind: 3, N: 1, Next: 1, Recs: []api.Rec{a}}, {Kind: 0, N: 1, Next: 1, Recs: []api.Rec{a}}, commit(0, 1, a), commit(-1, 1, a), commit(1, 0, a), commit(1, api.MaxID+2, a), commit(1, 1), commit(1, 701, puts(701)...),
		commit(1, 10, put(10)), commit(1, 1, put(1)), commit(1, 20, put(2), put(1)), commit(1, 20, put(1), put(1)), commit(1, 20, put(1), class(0)), commit(1, 20, root("b", 0), a), commit(1, 20, a, root("a", 1)), commit(1, 20, change(0, 2), change(0, 1)),
		copies(0, 1, nil), copies(1, 1, []int{1}), copies(1, 1, nil, a), copies(1, 1, []int{0}, a), copies(1, 1, []int{2}, a), copies(2, 1, []int{2, 1}, a, root("b", 0)), copies(2, 1, []int{1, 1}, a, a), copies(2, 1, []int{1, 1}, a, class(0)), copies(1, 3, []int{1}, put(3)), copies(1, 702, many(1, 701), puts(701)...), copies(1, 0, nil),
	}
	with := commit(1, 1, a)
	with.Vers = []int{1}
	all = append(all, with)
	for _, r := range wrongs() {
		all = append(all, commit(1, api.MaxID+1, r), copies(1, api.MaxID+1, []int{1}, r))
	}
	return all
}

func TestKeyAndSize(t *testing.T) {
	l, keys := rights()
	for i, r := range l {
		if got := rec.Key(r); got != keys[i] {
			t.Errorf("Key of %v: %s", r, got)
		}
		one, _ := rec.Encode(commit(1, api.MaxID+1, r))
		head := wire.Num(api.BCommit) + wire.Num(1) + wire.Num(api.MaxID+1) + wire.Num(1)
		if n, err := rec.Size(r); n != len(one)-len(head) || !strings.HasPrefix(one, head) || err != api.OK {
			t.Errorf("Size of %v: %d, %d", r, n, err)
		}
	}
	for _, r := range wrongs() {
		n, err := rec.Size(r)
		if rec.Key(r) != "" || n != 0 || err != api.ErrRec {
			t.Errorf("%v: %q, %d, %d", r, rec.Key(r), n, err)
		}
	}
}

func TestRight(t *testing.T) {
	for i, b := range rightBatches() {
		if !rec.Right(b) {
			t.Errorf("batch %d is not right", i)
		}
	}
	for i, b := range wrongBatches() {
		if rec.Right(b) {
			t.Errorf("wrong batch %d is right: %v", i, b)
		}
		if s, err := rec.Encode(b); s != "" || err != api.ErrRec {
			t.Errorf("Encode of wrong batch %d: %x, %d", i, s, err)
		}
	}
}

func TestSame(t *testing.T) {
	l, _ := rights()
	l = append(l, wrongs()[:15]...)
	l = append(l, api.Rec{Kind: 9, Class: node()}, api.Rec{Kind: 9, Change: drop()}, api.Rec{Kind: 9, Ver: 3})
	for i, a := range l {
		for j, b := range l {
			if rec.SameRec(a, b) != (i == j) {
				t.Errorf("SameRec(%v, %v) = %t", a, b, i != j)
			}
		}
	}
	all := rightBatches()
	all = append(all, copies(3, 11, []int{1, 1, 2, 2, 3}, put(10), root("a", 1), class(0), put(2), snap("a", 0)), commit(2, 1, root("a", 0)), commit(1, 2, root("a", 0)), copies(1, 1, []int{1}))
	for i, a := range all {
		for j, b := range all {
			if rec.Same(a, b) != (i == j) {
				t.Errorf("Same of %d and %d is %t", i, j, i != j)
			}
		}
	}
	if !rec.Same(api.Batch{Recs: []api.Rec{}, Vers: []int{}}, api.Batch{}) {
		t.Error("nothing is unlike empty lists")
	}
}

func TestEncode(t *testing.T) {
	want := "\x02\x02\x12\x0c" + "\x06\x00\x08node\x02\x02n\x02\x00\x00" + "\x08\x00\x02\x04\x02n\x00\x00\x00\x00\x00\x00" + "\x02\x10\x00\x00\x02\x02\x10" + "\x04\x08home\x0e" + "\x0a\x02s\x02" + "\x0a\x02t\x00"
	if got, err := rec.Encode(commit(1, 9, class(0), change(0, 1), put(8), root("home", 7), snap("s", 1), snap("t", 0))); got != want || err != api.OK {
		t.Errorf("Encode: %x, %d", got, err)
	}
	want = "\x04\x06\x04\x04" + "\x02\x04\x08home\x00" + "\x04\x02\x02\x00\x00\x02\x02\x02"
	if got, err := rec.Encode(copies(3, 2, []int{1, 2}, root("home", 0), put(1))); got != want || err != api.OK {
		t.Errorf("Encode: %x, %d", got, err)
	}
}

// large has records of about so many bytes.
func large(bytes int) api.Batch {
	b := commit(1, api.MaxID+1)
	for size, i := 0, 0; size < bytes; i++ {
		r := put(50000 + i)
		r.Obj.Vals = []api.Val{{Kind: api.Text, S: strings.Repeat("x", min(60, bytes-size))}}
		n, _ := rec.Size(r)
		b.Recs, size = append(b.Recs, r), size+n
	}
	return b
}

func TestABatchHasAtMostSoManyBytes(t *testing.T) {
	fits, tooLarge := 0, 0
	for bytes := api.MaxBytes - 150; bytes < api.MaxBytes+100; bytes++ {
		b := large(bytes)
		size := len(wire.Num(b.Kind) + wire.Num(b.N) + wire.Num(b.Next) + wire.Num(len(b.Recs)))
		for _, r := range b.Recs {
			n, _ := rec.Size(r)
			size += n
		}
		s, err := rec.Encode(b)
		if size > api.MaxBytes {
			tooLarge++
			if s != "" || err != api.ErrRec || !rec.Right(b) {
				t.Errorf("a batch of %d bytes: %d bytes, %d", size, len(s), err)
			}
			continue
		}
		fits++
		if got, back := rec.Decode(s); len(s) != size || err != api.OK || back != api.OK || !rec.Same(got, b) {
			t.Errorf("a batch of %d bytes: %d bytes, %d, %d", size, len(s), err, back)
		}
	}
	if fits == 0 || tooLarge == 0 {
		t.Errorf("%d fit, %d are too large", fits, tooLarge)
	}
}

// TestBytesOfTooLargeABatch lays records behind one head by hand.
func TestBytesOfTooLargeABatch(t *testing.T) {
	for bytes, want := range map[int]api.Errno{9000: api.OK, 11000: api.ErrRec} {
		b := large(bytes)
		head := func(records int) string {
			return wire.Num(b.Kind) + wire.Num(b.N) + wire.Num(b.Next) + wire.Num(records)
		}
		s := head(len(b.Recs))
		for _, r := range b.Recs {
			one, _ := rec.Encode(commit(b.N, b.Next, r))
			s += strings.TrimPrefix(one, head(1))
		}
		if _, err := rec.Decode(s); err != want {
			t.Errorf("Decode of %d bytes: %d", len(s), err)
		}
	}
}

func TestDecodeUndoesEncode(t *testing.T) {
	met := map[string]bool{}
	for i, b := range rightBatches() {
		s, err := rec.Encode(b)
		if err != api.OK || met[s] {
			t.Errorf("Encode of batch %d: %d", i, err)
		}
		met[s] = true
		if got, err := rec.Decode(s); !rec.Same(got, b) || err != api.OK {
			t.Errorf("batch %d comes back as %v, %d", i, got, err)
		}
		for short := 0; short < len(s); short += 1 + len(s)/300 {
			if got, err := rec.Decode(s[:short]); !rec.Same(got, api.Batch{}) || err != api.ErrRec {
				t.Fatalf("the first %d bytes of batch %d: %v, %d", short, i, got, err)
			}
		}
		for _, more := range []string{"\x00", "\x02", s} {
			if got, err := rec.Decode(s + more); !rec.Same(got, api.Batch{}) || err != api.ErrRec {
				t.Errorf("batch %d with more behind: %v, %d", i, got, err)
			}
		}
	}
}

func TestDecodeRefusesWhatIsNoBatch(t *testing.T) {
	for _, s := range []string{
		"", "\x02", "\x06\x02\x02\x00", "\x04\x00\x02\x00", "\x02\x02\x02\x00", "\x02\x02\x02\x01", "\x02\x02\x02" + wire.Num(701), "\x02\x02\x02" + wire.Num(1<<62), "\x02\x02\x02\x02\x0c", "\x02\x02\x02\x02\x00", "\x04\x02\x02\x02\x02",
		"\x02\x02\x02\x02\x04\x02A\x00", "\x02\x02\x02\x02\x04\x02a\x01", "\x02\x02\x02\x04\x04\x02b\x00\x04\x02a\x00", "\x04\x02\x02\x02\x04\x04\x02a\x00", strings.Repeat("\x02", api.MaxBytes+1), "\x80\x00\x02\x02\x02",
	} {
		if got, err := rec.Decode(s); !rec.Same(got, api.Batch{}) || err != api.ErrRec {
			t.Errorf("Decode(%x): %v, %d", s, got, err)
		}
	}
}

func FuzzDecode(f *testing.F) {
	for _, b := range rightBatches()[:3] {
		s, _ := rec.Encode(b)
		f.Add(s)
	}
	f.Fuzz(func(t *testing.T, s string) {
		b, err := rec.Decode(s)
		if err == api.OK {
			if again, err := rec.Encode(b); again != s || err != api.OK {
				t.Errorf("%x is read as what is written %x", s, again)
			}
		}
	})
}

func TestKeysAreOfOneRecordEach(t *testing.T) {
	l, _ := rights()
	met := map[string]int{}
	for i, r := range l {
		if k, ok := met[rec.Key(r)]; ok {
			t.Errorf("%d and %s have one key", k, strconv.Itoa(i))
		}
		met[rec.Key(r)] = i
	}
}
