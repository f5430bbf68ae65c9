package log_test

import (
	"math"
	"math/rand"
	"slices"
	"strconv"
	"strings"
	"testing"

	"moraine/api"
	"moraine/disk"
	"moraine/frame"
	"moraine/log"
)

// made is a new disk and the log on it.
func made(t *testing.T, sectors, per int) (*disk.Disk, *log.Log) {
	t.Helper()
	d, _ := disk.New(sectors)
	l, pieces, sector, err := log.Open(d, per)
	if l == nil || len(pieces) > 0 || sector != 0 || err != api.OK {
		t.Fatalf("Open of an empty disk: %v, %d, %d", pieces, sector, err)
	}
	return d, l
}

// appended appends batches, and checks their epochs.
func appended(t *testing.T, l *log.Log, deep bool, epochs []int, s ...string) {
	t.Helper()
	if got, err := l.Append(s, deep); !slices.Equal(got, epochs) || err != api.OK {
		t.Fatalf("Append: %v, %d, want %v", got, err, epochs)
	}
}

func sealed(t *testing.T, l *log.Log) {
	t.Helper()
	if err := l.Seal(); err != api.OK {
		t.Fatalf("Seal: %d", err)
	}
}

// stands checks the frame in a sector.
func stands(t *testing.T, d *disk.Disk, sector int, want api.Frame) {
	t.Helper()
	s, _ := d.Read(sector)
	if f, err := frame.Read(s); f != want || err != api.OK {
		t.Errorf("sector %d holds %v, %d", sector, f, err)
	}
}

// counts checks a log's chain, and how many segments are free.
func counts(t *testing.T, l *log.Log, free int, chain ...api.Use) {
	t.Helper()
	if got := l.Chain(); !slices.Equal(got, chain) || l.Free() != free {
		t.Errorf("chain %v, free %d, want %v, %d", got, l.Free(), chain, free)
	}
}

func use(epoch, sectors int) api.Use { return api.Use{Epoch: epoch, Sectors: sectors} }

func TestOpenRefuses(t *testing.T) {
	for _, x := range []struct {
		sectors, per int
		want         api.Errno
	}{
		{16, 3, api.ErrArg}, {16, 0, api.ErrArg}, {16, -4, api.ErrArg}, {768, 65, api.ErrArg}, {768, 63, api.OK}, {768, 64, api.OK}, {15, 4, api.ErrArg}, {16, 4, api.OK}, {51, 4, api.OK}, {52, 4, api.ErrArg}, {255, 64, api.ErrArg}, {256, 64, api.OK},
		{16, math.MaxInt, api.ErrArg}, {16, math.MinInt, api.ErrArg},
	} {
		d, _ := disk.New(x.sectors)
		l, pieces, sector, err := log.Open(d, x.per)
		if (l != nil) != (x.want == api.OK) || len(pieces) > 0 || sector != 0 || err != x.want {
			t.Errorf("Open of %d by %d: %v, %d, %d", x.sectors, x.per, pieces, sector, err)
		}
	}
	if l, _, sector, err := log.Open(nil, -1); l != nil || sector != 0 || err != api.ErrNil {
		t.Errorf("Open of none: %d", err)
	}
}

func TestNilLog(t *testing.T) {
	var l *log.Log
	epochs, err := l.Append([]string{"a"}, true)
	if len(epochs) > 0 || err != api.ErrNil || l.Seal() != api.ErrNil || l.Retire(1) != api.ErrNil || len(l.Chain()) > 0 || l.Free() != 0 {
		t.Error("a log that is none does something")
	}
}

func TestTheExample(t *testing.T) {
	d, l := made(t, 16, 4)
	counts(t, l, 4)
	appended(t, l, false, []int{1}, "a")
	sealed(t, l)
	stands(t, d, 0, api.Frame{Epoch: 1, Kind: api.FLink, S: strings.Repeat("\x00", 16)})
	stands(t, d, 1, api.Frame{Epoch: 1, At: 1, Kind: api.FEnd, S: "a"})
	stands(t, d, 2, api.Frame{Epoch: 1, At: 2, Kind: api.FSeal})
	counts(t, l, 3, use(1, 3))
	appended(t, l, false, []int{2}, "b")
	stands(t, d, 4, api.Frame{Epoch: 2, Kind: api.FLink, S: "\x00\x00\x01\x03" + strings.Repeat("\x00", 12)})
	counts(t, l, 2, use(1, 3), use(2, 2))
	if d.Pending() != 1 {
		t.Errorf("pending: %d", d.Pending())
	}
	sealed(t, l)
	sealed(t, l)
	counts(t, l, 2, use(1, 3), use(2, 3))
}

func TestAppendFillsSegments(t *testing.T) {
	_, l := made(t, 48, 8)
	long := strings.Repeat("x", 53*3)
	appended(t, l, false, []int{1, 1, 2, 2}, "a", long, long, "b")
	counts(t, l, 4, use(1, 5), use(2, 5))
	sealed(t, l)
	counts(t, l, 4, use(1, 5), use(2, 6))
	appended(t, l, false, []int{2}, "c")
	counts(t, l, 4, use(1, 5), use(2, 7))
	sealed(t, l)
	counts(t, l, 4, use(1, 5), use(2, 8))
	appended(t, l, false, nil)
	appended(t, l, false, []int{3, 4}, strings.Repeat("y", 53*6), "")
	counts(t, l, 2, use(1, 5), use(2, 8), use(3, 7), use(4, 2))
}

func TestAppendRefuses(t *testing.T) {
	_, l := made(t, 24, 4)
	big := strings.Repeat("x", 107)
	if got, err := l.Append([]string{"a", big}, true); len(got) > 0 || err != api.ErrBig {
		t.Errorf("a batch that is too large: %v, %d", got, err)
	}
	counts(t, l, 6)
	full := big[:106]
	if got, err := l.Append([]string{full, full, full, full, full}, false); len(got) > 0 || err != api.ErrFull {
		t.Errorf("too many batches: %v, %d", got, err)
	}
	counts(t, l, 6)
	appended(t, l, false, []int{1, 2, 3, 4}, full, full, full, "a")
	counts(t, l, 2, use(1, 3), use(2, 3), use(3, 3), use(4, 2))
	appended(t, l, false, []int{4}, "b")
	if _, err := l.Append([]string{"c"}, false); err != api.ErrFull {
		t.Errorf("less than two segments would be free: %d", err)
	}
	if _, err := l.Append([]string{"a", big}, false); err != api.ErrBig {
		t.Errorf("too large, and full: %d", err)
	}
	appended(t, l, true, []int{5, 6}, "c", full)
	if _, err := l.Append([]string{"d"}, true); err != api.ErrFull {
		t.Errorf("none is free: %d", err)
	}
	sealed(t, l)
	counts(t, l, 0, use(1, 3), use(2, 3), use(3, 3), use(4, 3), use(5, 2), use(6, 4))
}

func TestRetire(t *testing.T) {
	d, l := made(t, 24, 4)
	full := strings.Repeat("x", 106)
	appended(t, l, false, []int{1, 2, 3}, full, full, full)
	for _, epoch := range []int{0, -1, 4, 3, math.MaxInt} {
		if err := l.Retire(epoch); err != api.ErrLog {
			t.Errorf("Retire(%d): %d", epoch, err)
		}
	}
	if err := l.Retire(2); err != api.OK {
		t.Errorf("Retire: %d", err)
	}
	if err := l.Retire(2); err != api.ErrLog {
		t.Errorf("Retire once more: %d", err)
	}
	counts(t, l, 4, use(1, 3), use(3, 3))
	sealed(t, l)
	appended(t, l, false, []int{4}, full)
	stands(t, d, 4, api.Frame{Epoch: 4, Kind: api.FLink, S: "\x00\x00\x01\x03" + "\x00\x00\x00\x00" + "\x00\x00\x03\x04" + strings.Repeat("\x00", 12)})
	counts(t, l, 3, use(1, 3), use(3, 4), use(4, 3))
}

// texts are the batches of pieces, with their epochs.
func texts(l []api.Piece) (all []string) {
	for _, p := range l {
		all = append(all, strconv.Itoa(p.Epoch)+":"+p.S)
	}
	return all
}

// reopened opens the disk's log anew.
func reopened(t *testing.T, d *disk.Disk, per int, want ...string) *log.Log {
	t.Helper()
	l, pieces, sector, err := log.Open(d, per)
	if l == nil || sector != 0 || err != api.OK || !slices.Equal(texts(pieces), want) {
		t.Fatalf("Open: %q, %d, %d, want %q", texts(pieces), sector, err, want)
	}
	return l
}

func TestOpenFindsWhatWasAppended(t *testing.T) {
	d, l := made(t, 24, 4)
	two := strings.Repeat("x", 60)
	appended(t, l, false, []int{1, 1, 2}, "a", "b", two)
	sealed(t, l)
	l = reopened(t, d, 4, "1:a", "1:b", "2:"+two)
	counts(t, l, 4, use(1, 3), use(2, 4))
	appended(t, l, true, []int{3}, "c")
	l = reopened(t, d, 4, "1:a", "1:b", "2:"+two, "3:c")
	counts(t, l, 3, use(1, 3), use(2, 4), use(3, 3))
	stands(t, d, 10, api.Frame{Epoch: 3, At: 2, Kind: api.FSeal})
	reopened(t, d, 4, "1:a", "1:b", "2:"+two, "3:c")
	counts(t, l, 3, use(1, 3), use(2, 4), use(3, 3))
}

func TestOpenSealsWhatItFindsAndWipesWhatIsBehind(t *testing.T) {
	d, l := made(t, 32, 8)
	appended(t, l, false, []int{1}, "a")
	sealed(t, l)
	appended(t, l, false, []int{1, 1, 1}, "b", strings.Repeat("c", 60), "d")
	// Of "c" the first part is lost, and "d" stands behind what is not found.
	if err := d.Crash([]int{0, 2, 3}); err != api.OK {
		t.Fatalf("Crash: %d", err)
	}
	l = reopened(t, d, 8, "1:a", "1:b")
	counts(t, l, 3, use(1, 5))
	stands(t, d, 4, api.Frame{Epoch: 1, At: 4, Kind: api.FSeal})
	for sector := 5; sector < 8; sector++ {
		if s, _ := d.Read(sector); s != strings.Repeat("\x00", 64) {
			t.Errorf("sector %d is not wiped", sector)
		}
	}
	if d.Pending() != 0 {
		t.Errorf("pending: %d", d.Pending())
	}
	counts(t, reopened(t, d, 8, "1:a", "1:b"), 3, use(1, 5))
}

func TestOpenWritesInOrderAndTellsPower(t *testing.T) {
	d, l := made(t, 32, 8)
	appended(t, l, false, []int{1}, "a")
	if err := d.Crash([]int{0}); err != api.OK {
		t.Fatalf("Crash: %d", err)
	}
	for calls := range 9 {
		d.Cut(calls)
		l, pieces, sector, err := log.Open(d, 8)
		if l != nil || len(pieces) > 0 || sector != 0 || err != api.ErrPower {
			t.Errorf("cut behind %d: %v, %d, %d", calls, pieces, sector, err)
		}
		d.Crash(nil)
	}
	d.Cut(9)
	counts(t, reopened(t, d, 8, "1:a"), 3, use(1, 3))
	d.Cut(0)
	if _, _, _, err := log.Open(d, 8); err != api.ErrPower {
		t.Errorf("a chain without power: %d", err)
	}
	empty, _ := disk.New(32)
	empty.Cut(0)
	if l, _, _, err := log.Open(empty, 8); l == nil || err != api.OK {
		t.Errorf("no chain without power: %d", err)
	}
}

func TestALogIsDownBehindAnError(t *testing.T) {
	for calls := range 10 {
		d, l := made(t, 16, 4)
		d.Cut(calls)
		_, err := l.Append([]string{"a"}, false)
		if err == api.OK {
			err = l.Seal()
		}
		// Append: Sync, link, Sync, batch. Seal: Sync, seal, Sync.
		if calls >= 7 {
			if err != api.OK {
				t.Errorf("cut behind %d: %d", calls, err)
			}
			continue
		}
		if err != api.ErrPower {
			t.Errorf("cut behind %d: %d", calls, err)
		}
		d.Cut(100)
		epochs, err := l.Append([]string{strings.Repeat("x", 1000)}, false)
		if len(epochs) > 0 || err != api.ErrLog || l.Seal() != api.ErrLog || l.Retire(1) != api.ErrLog || len(l.Chain()) > 0 || l.Free() != 0 {
			t.Errorf("cut behind %d: the log is not down", calls)
		}
	}
}

// laid writes frames in sectors, and keeps them.
func laid(t *testing.T, d *disk.Disk, frames map[int]api.Frame) {
	t.Helper()
	for sector, f := range frames {
		s, err := frame.Lay(f)
		if err != api.OK {
			t.Fatalf("Lay: %d", err)
		}
		d.Write(sector, s)
	}
	d.Sync()
}

func link(epoch int, uses ...api.Use) api.Frame {
	s := ""
	for _, u := range uses {
		s += string([]byte{byte(u.Epoch >> 16), byte(u.Epoch >> 8), byte(u.Epoch), byte(u.Sectors)})
	}
	return api.Frame{Epoch: epoch, Kind: api.FLink, S: s}
}

func end(epoch, at int, s string) api.Frame {
	return api.Frame{Epoch: epoch, At: at, Kind: api.FEnd, S: s}
}

func seal(epoch, at int) api.Frame { return api.Frame{Epoch: epoch, At: at, Kind: api.FSeal} }

func TestEpochsEnd(t *testing.T) {
	d, _ := disk.New(16)
	none := use(0, 0)
	laid(t, d, map[int]api.Frame{4: link(api.MaxEpoch-1, none, none, none, none), 5: end(api.MaxEpoch-1, 1, "a"), 6: seal(api.MaxEpoch-1, 2)})
	l := reopened(t, d, 4, "16777214:a")
	if _, err := l.Append([]string{"x", "y", "z"}, true); err != api.ErrLog {
		t.Errorf("two epochs: %d", err)
	}
	if _, err := l.Append([]string{"x", strings.Repeat("x", 200)}, true); err != api.ErrBig {
		t.Errorf("two epochs, and too large: %d", err)
	}
	appended(t, l, false, []int{api.MaxEpoch, api.MaxEpoch}, "x", "y")
	sealed(t, l)
	if _, err := l.Append([]string{"z"}, false); err != api.ErrLog {
		t.Errorf("the last epoch: %d", err)
	}
	counts(t, l, 2, use(api.MaxEpoch-1, 3), use(api.MaxEpoch, 4))
}

func TestLinksTellLargeEpochs(t *testing.T) {
	d, _ := disk.New(32)
	none := use(0, 0)
	laid(t, d, map[int]api.Frame{8: link(0x010203, none, none, none, none), 9: end(0x010203, 1, "a"), 10: seal(0x010203, 2)})
	l := reopened(t, d, 8, "66051:a")
	appended(t, l, false, []int{0x010204}, "b")
	sealed(t, l)
	stands(t, d, 0, api.Frame{Epoch: 0x010204, Kind: api.FLink, S: "\x00\x00\x00\x00" + "\x01\x02\x03\x03" + strings.Repeat("\x00", 8)})
	l = reopened(t, d, 8, "66051:a", "66052:b")
	counts(t, l, 2, use(0x010203, 3), use(0x010204, 3))
	appended(t, l, true, []int{0x010205}, "c")
	stands(t, d, 16, api.Frame{Epoch: 0x010205, Kind: api.FLink, S: "\x01\x02\x04\x03" + "\x01\x02\x03\x03" + strings.Repeat("\x00", 8)})
	counts(t, l, 1, use(0x010203, 3), use(0x010204, 3), use(0x010205, 2))
	appended(t, l, false, []int{0x010205}, "what needs no other segment is appended, however few are free")
}

func TestRotIsToldInTurn(t *testing.T) {
	none := use(0, 0)
	good := func() map[int]api.Frame {
		return map[int]api.Frame{
			0: link(1, none, none, none, none), 1: end(1, 1, "a"), 2: seal(1, 2),
			4: link(2, use(1, 3), none, none, none), 5: end(2, 1, "b"), 6: end(2, 2, "c"), 7: seal(2, 3),
			12: link(3, use(1, 3), use(2, 4), none, none), 13: end(3, 1, "d"), 14: seal(3, 2),
		}
	}
	but := func(change func(m map[int]api.Frame)) map[int]api.Frame {
		m := good()
		change(m)
		return m
	}
	for i, x := range []struct {
		frames map[int]api.Frame
		sector int
	}{
		{but(func(m map[int]api.Frame) { delete(m, 12) }), 12}, {but(func(m map[int]api.Frame) { m[12] = end(3, 0, "x") }), 12}, {but(func(m map[int]api.Frame) { m[12] = link(3, use(1, 3), use(2, 4), none) }), 12},
		{but(func(m map[int]api.Frame) { m[12] = link(3, use(1, 3), use(1, 4), none, none) }), 12}, {but(func(m map[int]api.Frame) { m[12] = link(3, use(1, 3), use(3, 4), none, none) }), 12}, {but(func(m map[int]api.Frame) { m[12] = link(3, use(1, 3), use(4, 4), none, none) }), 12},
		{but(func(m map[int]api.Frame) { m[12] = link(3, use(1, 0), use(2, 4), none, none) }), 12}, {but(func(m map[int]api.Frame) { m[12] = link(3, use(1, 5), use(2, 4), none, none) }), 12}, {but(func(m map[int]api.Frame) { m[12] = link(3, use(0, 1), use(2, 4), none, none) }), 12},
		{but(func(m map[int]api.Frame) { m[12] = link(3, use(1, 3), none, none, use(2, 4)) }), 12}, {but(func(m map[int]api.Frame) { m[12] = link(2, use(1, 3), use(2, 4), none, none); m[5] = end(9, 1, "") }), 4},
		{but(func(m map[int]api.Frame) { m[0] = end(1, 0, "") }), 0}, {but(func(m map[int]api.Frame) { delete(m, 0); delete(m, 1) }), 0}, {but(func(m map[int]api.Frame) { delete(m, 2) }), 2}, {but(func(m map[int]api.Frame) { m[1] = end(2, 1, "a") }), 1},
		{but(func(m map[int]api.Frame) { m[6] = api.Frame{Epoch: 2, At: 2, Kind: api.FLink} }), 6}, {but(func(m map[int]api.Frame) { delete(m, 7); m[13] = end(2, 1, "") }), 7}, {but(func(m map[int]api.Frame) { delete(m, 2); delete(m, 4) }), 2},
		{but(func(m map[int]api.Frame) { delete(m, 13) }), 13}, {but(func(m map[int]api.Frame) { m[13] = api.Frame{Epoch: 3, At: 1, Kind: api.FLink} }), 13}, {but(func(m map[int]api.Frame) { m[13] = end(2, 1, "d") }), 13}, {but(func(m map[int]api.Frame) { delete(m, 14); m[15] = seal(3, 3) }), 14},
		{but(func(m map[int]api.Frame) { m[13] = end(3, 2, "d") }), 13}, {but(func(m map[int]api.Frame) { m[9] = end(3, 1, "stray") }), 8},
	} {
		d, _ := disk.New(16)
		laid(t, d, x.frames)
		l, pieces, sector, err := log.Open(d, 4)
		if l != nil || len(pieces) > 0 || sector != x.sector || err != api.ErrRot {
			t.Errorf("case %d: %q, %d, %d, want sector %d", i, texts(pieces), sector, err, x.sector)
		}
	}
	for i, x := range []struct {
		frames map[int]api.Frame
		want   []string
	}{
		{but(func(m map[int]api.Frame) {
			delete(m, 13)
			delete(m, 15)
			m[14] = end(2, 2, "stale")
			m[13] = end(3, 1, "d")
		}), []string{"1:a", "2:b", "2:c", "3:d"}},
		{good(), []string{"1:a", "2:b", "2:c", "3:d"}}, {but(func(m map[int]api.Frame) { delete(m, 14) }), []string{"1:a", "2:b", "2:c", "3:d"}}, {but(func(m map[int]api.Frame) { delete(m, 14); delete(m, 13) }), []string{"1:a", "2:b", "2:c"}},
		{but(func(m map[int]api.Frame) { delete(m, 3); m[8] = end(2, 1, "stale") }), []string{"1:a", "2:b", "2:c", "3:d"}}, {but(func(m map[int]api.Frame) { m[15] = end(3, 3, "e") }), []string{"1:a", "2:b", "2:c", "3:d", "3:e"}},
		{but(func(m map[int]api.Frame) { m[12] = link(3, none, use(2, 2), none, none) }), []string{"2:b", "3:d"}}, {but(func(m map[int]api.Frame) { m[15] = api.Frame{Epoch: 3, At: 3, Kind: api.FLink} }), []string{"1:a", "2:b", "2:c", "3:d"}},
		{but(func(m map[int]api.Frame) { m[1] = api.Frame{Epoch: 1, At: 1, Kind: api.FPart} }), []string{"2:b", "2:c", "3:d"}},
	} {
		d, _ := disk.New(16)
		laid(t, d, x.frames)
		reopened(t, d, 4, x.want...)
		reopened(t, d, 4, x.want...)
		if d.Pending() != 0 {
			t.Errorf("case %d: pending %d", i, d.Pending())
		}
	}
}

// TestPowerLosses goes on with a log through power losses at any time: what was sealed is found, of the rest a beginning.
func TestPowerLosses(t *testing.T) {
	r := rand.New(rand.NewSource(13))
	for round := range 400 {
		per := 4 + r.Intn(8)
		d, l := made(t, per*(4+r.Intn(4)), per)
		var all []string
		epochs := map[string]int{}
		safe, named := 0, 0
		for range 30 {
			if r.Intn(4) == 0 {
				d.Cut(r.Intn(12))
			}
			var batches []string
			for range r.Intn(4) {
				named++
				batches = append(batches, strconv.Itoa(named)+" "+strings.Repeat("x", r.Intn(53*(per-2)-8)))
			}
			told, err := l.Append(batches, r.Intn(2) == 0)
			if err == api.OK || err == api.ErrPower {
				all = append(all, batches...)
			}
			for i, epoch := range told {
				epochs[batches[i]] = epoch
			}
			if err == api.OK && r.Intn(2) == 0 {
				if err = l.Seal(); err == api.OK {
					safe = len(all)
				}
			}
			if err == api.ErrFull {
				break
			}
			if err == api.ErrPower || r.Intn(8) == 0 {
				d.Crash(r.Perm(d.Pending())[:r.Intn(d.Pending()+1)])
				if r.Intn(2) == 0 {
					d.Cut(r.Intn(12))
				}
				again, pieces, sector, err := log.Open(d, per)
				for err == api.ErrPower {
					d.Crash(r.Perm(d.Pending())[:r.Intn(d.Pending()+1)])
					again, pieces, sector, err = log.Open(d, per)
				}
				if err != api.OK {
					t.Fatalf("round %d: Open tells %d, %d", round, sector, err)
				}
				if len(pieces) < safe || len(pieces) > len(all) {
					t.Fatalf("round %d: of %d batches, %d sealed, %d are found", round, len(all), safe, len(pieces))
				}
				for i, p := range pieces {
					if e := epochs[p.S]; p.S != all[i] || e != 0 && e != p.Epoch {
						t.Fatalf("round %d: batch %d is %q of epoch %d", round, i, p.S, p.Epoch)
					}
				}
				l, all, safe = again, all[:len(pieces)], len(pieces)
			}
		}
	}
}

// TestOneSectorThatRots is told, or makes no difference.
func TestOneSectorThatRots(t *testing.T) {
	d, l := made(t, 24, 4)
	appended(t, l, false, []int{1, 1, 2}, "a", "b", strings.Repeat("c", 60))
	sealed(t, l)
	appended(t, l, true, []int{3, 3}, "d", "e")
	sealed(t, l)
	_, pieces, _, _ := log.Open(d, 4)
	want := texts(pieces)
	toldRot := 0
	for sector := range 24 {
		for place := range api.Sector {
			d.Rot(sector, place, 1<<(place%8))
			_, pieces, at, err := log.Open(d, 4)
			switch {
			case err == api.ErrRot && at == sector:
				toldRot++
				d.Rot(sector, place, 1<<(place%8))
			case err != api.OK || !slices.Equal(texts(pieces), want):
				t.Fatalf("byte %d of sector %d: %q, %d, %d", place, sector, texts(pieces), at, err)
			}
		}
	}
	if toldRot < 9*api.Sector {
		t.Errorf("only %d times something is told", toldRot)
	}
}

func TestRetiredBatchesAreNotFoundOnceASegmentWasOpened(t *testing.T) {
	d, l := made(t, 24, 4)
	full := strings.Repeat("x", 106)
	appended(t, l, false, []int{1, 2, 3}, "a", full, "b")
	sealed(t, l)
	l.Retire(1)
	appended(t, l, false, []int{4}, full)
	sealed(t, l)
	d.Crash(nil)
	reopened(t, d, 4, "2:"+full, "3:b", "4:"+full)
}
