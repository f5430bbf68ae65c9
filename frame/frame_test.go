package frame_test

import (
	"math"
	"math/rand"
	"slices"
	"strings"
	"testing"

	"moraine/api"
	"moraine/frame"
	"moraine/wire"
)

func of(kind int, s string) api.Frame { return api.Frame{Epoch: 1, At: 3, Kind: kind, S: s} }

func rights() []api.Frame {
	return []api.Frame{
		of(api.FEnd, ""), of(api.FPart, "a"), of(api.FSeal, "\x00\xff"), {Epoch: 1, Kind: api.FLink, S: strings.Repeat("x", api.Payload)}, {Epoch: api.MaxEpoch, At: 63, Kind: api.FSeal, S: "\x00"}, {Epoch: 0x010203, At: 1, Kind: api.FEnd, S: strings.Repeat("\x00", 53)},
	}
}

func wrongs() []api.Frame {
	return []api.Frame{
		{}, {Epoch: 0, Kind: api.FEnd}, {Epoch: -1, Kind: api.FEnd}, {Epoch: api.MaxEpoch + 1, Kind: api.FEnd}, {Epoch: 1, At: -1, Kind: api.FEnd}, {Epoch: 1, At: 64, Kind: api.FEnd}, of(0, ""), of(5, ""), of(-1, ""), of(api.FEnd, strings.Repeat("x", 54)),
		{Epoch: math.MaxInt, At: math.MinInt, Kind: math.MaxInt},
	}
}

func TestLay(t *testing.T) {
	body := "\x01\x02\x03\x09\x03\x02\x00ab" + strings.Repeat("\x00", 51)
	sum := wire.Sum(body)
	want := body + string([]byte{byte(sum >> 24), byte(sum >> 16), byte(sum >> 8), byte(sum)})
	if got, err := frame.Lay(api.Frame{Epoch: 0x010203, At: 9, Kind: api.FEnd, S: "ab"}); got != want || err != api.OK {
		t.Errorf("Lay: %x, %d", got, err)
	}
	for _, f := range wrongs() {
		if got, err := frame.Lay(f); got != "" || err != api.ErrFrame {
			t.Errorf("Lay of %v: %x, %d", f, got, err)
		}
	}
}

func TestReadUndoesLay(t *testing.T) {
	for _, f := range rights() {
		s, err := frame.Lay(f)
		if len(s) != api.Sector || err != api.OK {
			t.Errorf("Lay of %v: %d bytes, %d", f, len(s), err)
		}
		if got, err := frame.Read(s); got != f || err != api.OK {
			t.Errorf("%v comes back as %v, %d", f, got, err)
		}
	}
}

// sealed is a sector with the sum of its bytes.
func sealed(body string) string {
	body += strings.Repeat("\x00", 60-len(body))
	sum := wire.Sum(body)
	return body + string([]byte{byte(sum >> 24), byte(sum >> 16), byte(sum >> 8), byte(sum)})
}

func TestReadRefusesWhatIsNoFrame(t *testing.T) {
	good := sealed("\x00\x00\x01\x03\x03\x02\x00ab")
	if _, err := frame.Read(good); err != api.OK {
		t.Fatalf("Read: %d", err)
	}
	for _, s := range []string{
		"", "a", good[1:], good + "\x00", strings.Repeat("\x00", 64), strings.Repeat("\xff", 64), sealed("\x00\x00\x00\x03\x03\x02\x00ab"), sealed("\x00\x00\x01\x40\x03\x02\x00ab"), sealed("\x00\x00\x01\x03\x00\x02\x00ab"), sealed("\x00\x00\x01\x03\x05\x02\x00ab"),
		sealed("\x00\x00\x01\x03\x03\x36\x00ab"), sealed("\x00\x00\x01\x03\x03\xff\x00ab"), sealed("\x00\x00\x01\x03\x03\x02\x01ab"), sealed("\x00\x00\x01\x03\x03\x02\x00abc"), sealed("\x00\x00\x01\x03\x03\x00\x00" + strings.Repeat("\x00", 52) + "\x01"),
	} {
		if f, err := frame.Read(s); f != (api.Frame{}) || err != api.ErrFrame {
			t.Errorf("Read of %x: %v, %d", s, f, err)
		}
	}
}

func TestASectorOneByteOfWhichIsAnotherOneIsNone(t *testing.T) {
	for _, f := range rights()[:3] {
		s, _ := frame.Lay(f)
		for at := range s {
			for mask := 1; mask < 256; mask++ {
				b := []byte(s)
				b[at] ^= byte(mask)
				if f, err := frame.Read(string(b)); err != api.ErrFrame {
					t.Fatalf("byte %d turned by %x: %v", at, mask, f)
				}
			}
		}
	}
}

func TestNeed(t *testing.T) {
	for n, want := range map[int]int{0: 1, 1: 1, 53: 1, 54: 2, 106: 2, 107: 3, -1: 0, math.MinInt: 0, math.MaxInt: math.MaxInt/53 + 1} {
		if got := frame.Need(n); got != want {
			t.Errorf("Need(%d) = %d", n, got)
		}
	}
}

func TestCut(t *testing.T) {
	a, b := strings.Repeat("a", 53), strings.Repeat("b", 53)
	for s, want := range map[string][]api.Frame{
		"": {{Epoch: 7, At: 2, Kind: api.FEnd}}, "x": {{Epoch: 7, At: 2, Kind: api.FEnd, S: "x"}}, a: {{Epoch: 7, At: 2, Kind: api.FEnd, S: a}},
		a + "x": {{Epoch: 7, At: 2, Kind: api.FPart, S: a}, {Epoch: 7, At: 3, Kind: api.FEnd, S: "x"}}, a + b: {{Epoch: 7, At: 2, Kind: api.FPart, S: a}, {Epoch: 7, At: 3, Kind: api.FEnd, S: b}},
	} {
		if got, err := frame.Cut(7, 2, s); !slices.Equal(got, want) || err != api.OK {
			t.Errorf("Cut of %d bytes: %v, %d", len(s), got, err)
		}
	}
	for i, x := range []struct {
		epoch, at, size int
		want            api.Errno
	}{
		{0, 0, 1, api.ErrArg}, {-1, 0, 1, api.ErrArg}, {api.MaxEpoch + 1, 0, 1, api.ErrArg}, {api.MaxEpoch, 63, 53, api.OK}, {1, 63, 54, api.ErrArg}, {1, 62, 106, api.OK}, {1, 64, 0, api.ErrArg}, {1, -1, 1, api.ErrArg},
		{1, math.MaxInt, 1, api.ErrArg}, {1, math.MinInt, 1, api.ErrArg}, {1, 0, 64 * 53, api.OK}, {1, 0, 64*53 + 1, api.ErrArg}, {1, 1, 64 * 53, api.ErrArg},
	} {
		l, err := frame.Cut(x.epoch, x.at, strings.Repeat("x", x.size))
		if err != x.want || (err == api.OK) != (len(l) == frame.Need(x.size)) {
			t.Errorf("case %d: %d frames, %d", i, len(l), err)
		}
	}
}

func TestJoin(t *testing.T) {
	part, end, seal, link := of(api.FPart, "b"), of(api.FEnd, "a"), of(api.FSeal, ""), of(api.FLink, "")
	for i, x := range []struct {
		l    []api.Frame
		want []string
		n    int
	}{
		{nil, nil, 0}, {[]api.Frame{end, seal, part}, []string{"a"}, 2}, {[]api.Frame{end, end, part, part, end}, []string{"a", "a", "bba"}, 5}, {[]api.Frame{part, end, seal, seal}, []string{"ba"}, 4}, {[]api.Frame{seal}, nil, 1}, {[]api.Frame{part}, nil, 0},
		{[]api.Frame{end, link, end}, []string{"a"}, 1}, {[]api.Frame{end, part, link, end}, []string{"a"}, 1}, {[]api.Frame{end, part, seal, end}, []string{"a"}, 1}, {[]api.Frame{link}, nil, 0}, {[]api.Frame{end, {}, end}, []string{"a"}, 1}, {[]api.Frame{seal, end, {Epoch: 1, At: 64, Kind: 3}}, []string{"a"}, 2},
		{[]api.Frame{part, of(api.FEnd, strings.Repeat("x", 54))}, nil, 0}, {[]api.Frame{of(api.FEnd, ""), {Epoch: 9, At: 0, Kind: api.FEnd, S: "z"}}, []string{"", "z"}, 2},
	} {
		if got, n := frame.Join(x.l); !slices.Equal(got, x.want) || n != x.n {
			t.Errorf("case %d: %q, %d", i, got, n)
		}
	}
}

func TestWhatIsCutIsJoined(t *testing.T) {
	r := rand.New(rand.NewSource(12))
	for range 500 {
		var batches []string
		var frames []api.Frame
		for range r.Intn(5) {
			b := make([]byte, r.Intn(300))
			r.Read(b)
			batches = append(batches, string(b))
			l, err := frame.Cut(5, len(frames), string(b))
			if err != api.OK {
				t.Fatalf("Cut: %d", err)
			}
			frames = append(frames, l...)
			if r.Intn(2) == 0 {
				frames = append(frames, api.Frame{Epoch: 5, At: len(frames), Kind: api.FSeal})
			}
		}
		for i, f := range frames {
			s, _ := frame.Lay(f)
			frames[i], _ = frame.Read(s)
		}
		if got, n := frame.Join(frames); !slices.Equal(got, batches) || n != len(frames) {
			t.Fatalf("%d batches come back as %d, %d frames of %d", len(batches), len(got), n, len(frames))
		}
	}
}
