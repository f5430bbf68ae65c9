package disk_test

import (
	"math"
	"strings"
	"testing"

	"moraine/api"
	"moraine/disk"
)

// full is a sector of one letter alone.
func full(letter string) string { return strings.Repeat(letter, api.Sector) }

// made is a new disk.
func made(t *testing.T, sectors int) *disk.Disk {
	t.Helper()
	d, err := disk.New(sectors)
	if d == nil || err != api.OK {
		t.Fatalf("New(%d): %d", sectors, err)
	}
	return d
}

// holds checks what is there of the sectors from 0 on: a letter each, or "0" for noughts.
func holds(t *testing.T, d *disk.Disk, letters ...string) {
	t.Helper()
	for at, letter := range letters {
		want := full(letter)
		if letter == "0" {
			want = full("\x00")
		}
		if got, err := d.Read(at); got != want || err != api.OK {
			t.Errorf("sector %d: %q, %d, want %q", at, got, err, letter)
		}
	}
}

// wrote writes sectors, each a place and a letter: "0a".
func wrote(t *testing.T, d *disk.Disk, writes ...string) {
	t.Helper()
	for _, w := range writes {
		if err := d.Write(int(w[0]-'0'), full(w[1:])); err != api.OK {
			t.Fatalf("Write %s: %d", w, err)
		}
	}
}

func TestNewIsEmptyAndOfItsSize(t *testing.T) {
	for _, n := range []int{1, 2, api.MaxSectors} {
		d := made(t, n)
		if d.Size() != n || d.Pending() != 0 {
			t.Errorf("a disk of %d: size %d, pending %d", n, d.Size(), d.Pending())
		}
		for at := range n {
			if got, err := d.Read(at); got != full("\x00") || err != api.OK {
				t.Errorf("sector %d: %q, %d", at, got, err)
			}
		}
	}
	for _, n := range []int{0, -1, math.MinInt, api.MaxSectors + 1, math.MaxInt} {
		if d, err := disk.New(n); d != nil || err != api.ErrArg {
			t.Errorf("New(%d): %v, %d", n, d, err)
		}
	}
}

func TestReadIsTheLastWrite(t *testing.T) {
	d := made(t, 3)
	wrote(t, d, "0a", "1b", "0c")
	holds(t, d, "c", "b", "0")
	if d.Pending() != 3 {
		t.Errorf("pending: %d", d.Pending())
	}
	if err := d.Sync(); err != api.OK || d.Pending() != 0 {
		t.Errorf("Sync: %d, pending %d", err, d.Pending())
	}
	holds(t, d, "c", "b", "0")
	d.Crash(nil)
	holds(t, d, "c", "b", "0")
}

func TestReadAndWriteRefuseWhatIsNoSector(t *testing.T) {
	d := made(t, 2)
	for _, at := range []int{-1, 2, math.MinInt, math.MaxInt} {
		if got, err := d.Read(at); got != "" || err != api.ErrDisk {
			t.Errorf("Read(%d): %q, %d", at, got, err)
		}
		if err := d.Write(at, full("a")); err != api.ErrDisk {
			t.Errorf("Write(%d): %d", at, err)
		}
	}
	for _, s := range []string{"", "a", full("a")[1:], full("a") + "a"} {
		if err := d.Write(0, s); err != api.ErrDisk {
			t.Errorf("Write of %d bytes: %d", len(s), err)
		}
	}
	if d.Pending() != 0 {
		t.Errorf("pending: %d", d.Pending())
	}
	holds(t, d, "0", "0")
}

func TestCrashKeepsWhatItIsTold(t *testing.T) {
	for _, c := range []struct {
		keep []int
		want string
	}{{nil, "00"}, {[]int{0}, "a0"}, {[]int{1}, "0b"}, {[]int{2, 1}, "cb"}, {[]int{2, 0}, "a0"}, {[]int{0, 1, 2}, "cb"}} {
		d := made(t, 2)
		wrote(t, d, "0a", "1b", "0c")
		if err := d.Crash(c.keep); err != api.OK || d.Pending() != 0 {
			t.Errorf("Crash %v: %d, pending %d", c.keep, err, d.Pending())
		}
		holds(t, d, c.want[:1], c.want[1:])
	}
}

func TestCrashRefusesWhatIsNotPending(t *testing.T) {
	d := made(t, 2)
	wrote(t, d, "0a", "1b")
	d.Cut(0)
	for _, keep := range [][]int{{-1}, {2}, {0, 0}, {0, 1, 2}, {1, 0, 1}, {math.MaxInt}, {math.MinInt}} {
		if err := d.Crash(keep); err != api.ErrKeep || d.Pending() != 2 {
			t.Errorf("Crash %v: %d, pending %d", keep, err, d.Pending())
		}
		holds(t, d, "a", "b")
	}
	if err := d.Sync(); err != api.ErrPower {
		t.Errorf("a Crash with an error gave power: %d", err)
	}
	if err := made(t, 1).Crash([]int{0}); err != api.ErrKeep {
		t.Errorf("nothing is pending: %d", err)
	}
}

func TestRotTurnsWhatIsKept(t *testing.T) {
	d := made(t, 2)
	wrote(t, d, "0a")
	d.Sync()
	wrote(t, d, "0b")
	if err := d.Rot(0, 63, 0x83); err != api.OK {
		t.Errorf("Rot: %d", err)
	}
	holds(t, d, "b", "0")
	d.Crash(nil)
	want := full("a")[:63] + string([]byte{'a' ^ 0x83})
	if got, _ := d.Read(0); got != want {
		t.Errorf("behind Rot: %q", got)
	}
	d.Rot(0, 63, 0x83)
	d.Rot(1, 0, 0)
	holds(t, d, "a", "0")
}

func TestRotRefusesWrongNumbers(t *testing.T) {
	d := made(t, 2)
	for _, c := range []struct {
		at, place, mask int
		want            api.Errno
	}{
		{-1, 0, 1, api.ErrDisk}, {2, 0, 1, api.ErrDisk}, {2, -1, 300, api.ErrDisk}, {0, -1, 1, api.ErrArg}, {0, 64, 1, api.ErrArg},
		{0, 0, -1, api.ErrArg}, {0, 0, 256, api.ErrArg}, {0, 0, 255, api.OK}, {1, 63, 0, api.OK}, {0, 0, 255, api.OK},
	} {
		if err := d.Rot(c.at, c.place, c.mask); err != c.want {
			t.Errorf("Rot(%d, %d, %d): %d", c.at, c.place, c.mask, err)
		}
	}
	holds(t, d, "0", "0")
}

func TestCutCountsWritesAndSyncs(t *testing.T) {
	for n := range 5 {
		d := made(t, 4)
		if err := d.Cut(n); err != api.OK {
			t.Fatalf("Cut(%d): %d", n, err)
		}
		d.Read(0)
		d.Rot(3, 0, 0)
		if err := d.Write(9, full("x")); err != api.ErrDisk {
			t.Errorf("a write of no sector: %d", err)
		}
		calls := []func() api.Errno{
			func() api.Errno { return d.Write(0, full("a")) }, d.Sync,
			func() api.Errno { return d.Write(1, full("b")) }, d.Sync,
		}
		for i, call := range calls {
			want := api.OK
			if i >= n {
				want = api.ErrPower
			}
			if err := call(); err != want {
				t.Errorf("cut behind %d: call %d tells %d", n, i, err)
			}
		}
		if err := d.Write(-1, ""); err != api.ErrDisk {
			t.Errorf("a write of no sector without power: %d", err)
		}
		holds(t, d, []string{"0", "a"}[min(n, 1)], []string{"0", "b"}[max(min(n-2, 1), 0)])
		d.Crash(nil)
		holds(t, d, []string{"0", "a"}[max(min(n-1, 1), 0)], []string{"0", "b"}[max(min(n-3, 1), 0)])
		if err := d.Sync(); err != api.OK {
			t.Errorf("power is not there behind the loss: %d", err)
		}
		wrote(t, d, "0c", "1d", "2e", "3f")
		holds(t, d, "c", "d", "e", "f")
	}
}

func TestCutSetsPowerAnew(t *testing.T) {
	d := made(t, 1)
	if err := d.Cut(-1); err != api.ErrArg {
		t.Errorf("Cut(-1): %d", err)
	}
	wrote(t, d, "0a")
	d.Cut(0)
	if err := d.Cut(math.MinInt); err != api.ErrArg {
		t.Errorf("Cut of the least number: %d", err)
	}
	if err := d.Sync(); err != api.ErrPower || d.Pending() != 1 {
		t.Errorf("Sync without power: %d, pending %d", err, d.Pending())
	}
	d.Cut(2)
	wrote(t, d, "0b")
	if err := d.Sync(); err != api.OK {
		t.Errorf("Sync: %d", err)
	}
	if err := d.Sync(); err != api.ErrPower {
		t.Errorf("Sync behind the cut: %d", err)
	}
	holds(t, d, "b")
}

func TestNilDisk(t *testing.T) {
	var d *disk.Disk
	if s, err := d.Read(-1); s != "" || err != api.ErrNil {
		t.Errorf("Read: %q, %d", s, err)
	}
	for i, err := range []api.Errno{d.Write(-1, ""), d.Sync(), d.Crash([]int{4}), d.Rot(-1, -1, -1), d.Cut(-1)} {
		if err != api.ErrNil {
			t.Errorf("call %d: %d", i, err)
		}
	}
	if d.Size() != 0 || d.Pending() != 0 {
		t.Errorf("size %d, pending %d", d.Size(), d.Pending())
	}
}

func TestEachSectorIsWhatItWasOrOneOfItsWrites(t *testing.T) {
	for mask := range 1 << 4 {
		d := made(t, 2)
		wrote(t, d, "0s", "1t")
		d.Sync()
		wrote(t, d, "0a", "1b", "0c", "1d")
		var keep []int
		for k := range 4 {
			if mask>>k&1 == 1 {
				keep = append(keep, k)
			}
		}
		d.Crash(keep)
		for at, may := range []string{"sac", "tbd"} {
			got, _ := d.Read(at)
			if got != full(got[:1]) || !strings.Contains(may, got[:1]) {
				t.Errorf("kept %v: sector %d is %q", keep, at, got)
			}
		}
	}
}
