package wire_test

import (
	"math"
	"strings"
	"testing"

	"moraine/api"
	"moraine/wire"
)

func TestNumIsLaidAsTheDocumentSays(t *testing.T) {
	for n, want := range map[int]string{
		0: "\x00", -1: "\x01", 1: "\x02", 63: "\x7e", -64: "\x7f", 64: "\x80\x01", -65: "\x81\x01", 300: "\xd8\x04",
		8191: "\xfe\x7f", 8192: "\x80\x80\x01",
		math.MaxInt: "\xfe\xff\xff\xff\xff\xff\xff\xff\xff\x01",
		math.MinInt: "\xff\xff\xff\xff\xff\xff\xff\xff\xff\x01",
	} {
		if got := wire.Num(n); got != want {
			t.Errorf("Num(%d) = %x, want %x", n, got, want)
		}
	}
}

// numbers are ordinary ones and those at which a group more begins.
func numbers() []int {
	list := []int{math.MinInt, math.MaxInt, 0, 300, -300}
	for bit := range 63 {
		for _, by := range []int{-2, -1, 0, 1, 2} {
			list = append(list, 1<<bit+by, -(1<<bit)+by)
		}
	}
	return list
}

func TestNumIsReadBackWhereverItStands(t *testing.T) {
	for _, n := range numbers() {
		laid := wire.Num(n)
		if len(laid) < 1 || len(laid) > 10 {
			t.Errorf("Num(%d) has %d bytes", n, len(laid))
		}
		for _, around := range []string{"", "\x00", "\xff", "ab"} {
			got, to, err := wire.ReadNum(around+laid+around, len(around))
			if got != n || to != len(around)+len(laid) || err != api.OK {
				t.Errorf("ReadNum of %d: %d, %d, %d", n, got, to, err)
			}
		}
		for short := range len(laid) {
			if got, to, err := wire.ReadNum(laid[:short], 0); got != 0 || to != 0 || err != api.ErrWire {
				t.Errorf("the first %d bytes of %d: %d, %d, %d", short, n, got, to, err)
			}
		}
	}
}

func TestReadNumRefusesWhatNoNumberLaid(t *testing.T) {
	for _, s := range []string{
		"", "\x80", "\x80\x00", "\x81\x00", "\xff\x80\x00",
		"\xff\xff\xff\xff\xff\xff\xff\xff\xff\x02", "\xfe\xff\xff\xff\xff\xff\xff\xff\xff\x03",
		"\x80\x80\x80\x80\x80\x80\x80\x80\x80\x04", "\x80\x80\x80\x80\x80\x80\x80\x80\x80\x00",
		"\x80\x80\x80\x80\x80\x80\x80\x80\x80\x81\x00", strings.Repeat("\xff", 9), strings.Repeat("\x80", 40) + "\x01",
	} {
		if n, to, err := wire.ReadNum(s, 0); n != 0 || to != 0 || err != api.ErrWire {
			t.Errorf("ReadNum(%x): %d, %d, %d", s, n, to, err)
		}
	}
	for _, at := range []int{-1, math.MinInt, 1, 2, math.MaxInt} {
		if n, to, err := wire.ReadNum("\x02", at); n != 0 || to != 0 || err != api.ErrWire {
			t.Errorf("ReadNum at %d: %d, %d, %d", at, n, to, err)
		}
	}
}

func TestWhatIsReadIsWrittenAsItStood(t *testing.T) {
	for a := range 256 {
		for b := range 256 {
			s := string([]byte{byte(a), byte(b), 1})
			n, to, err := wire.ReadNum(s, 0)
			if err == api.OK && wire.Num(n) != s[:to] {
				t.Errorf("%x is read as %d, which is %x", s, n, wire.Num(n))
			}
		}
	}
}

func TestTextIsLaidAndReadBack(t *testing.T) {
	for _, s := range []string{"", "a", "\x00", "\xff\xfe", "grün", strings.Repeat("b", 63), strings.Repeat("b", 64), strings.Repeat("c", api.MaxBytes)} {
		laid, err := wire.Text(s)
		if laid != wire.Num(len(s))+s || err != api.OK {
			t.Errorf("Text of %d bytes: %d bytes, %d", len(s), len(laid), err)
		}
		got, to, err := wire.ReadText("xy"+laid+"z", 2)
		if got != s || to != 2+len(laid) || err != api.OK {
			t.Errorf("ReadText of %d bytes: %d bytes, %d, %d", len(s), len(got), to, err)
		}
		if got, to, err := wire.ReadText(laid, 0); got != s || to != len(laid) || err != api.OK {
			t.Errorf("ReadText of %d bytes up to the end: %d bytes, %d, %d", len(s), len(got), to, err)
		}
		if got, to, err := wire.ReadText(laid[:len(laid)-1], 0); got != "" || to != 0 || err != api.ErrWire {
			t.Errorf("a text that ends ahead: %q, %d, %d", got, to, err)
		}
	}
}

func TestTextRefusesWhatIsTooLongOrNone(t *testing.T) {
	long := strings.Repeat("c", api.MaxBytes+1)
	if s, err := wire.Text(long); s != "" || err != api.ErrWire {
		t.Errorf("a text that is too long: %d bytes, %d", len(s), err)
	}
	for _, s := range []string{"", "\x02", "\x01", "\x04a", "\x80\x00", "\x02\x00"[:1], wire.Num(len(long)) + long, wire.Num(1 << 40), wire.Num(math.MaxInt), wire.Num(math.MinInt)} {
		if got, to, err := wire.ReadText(s, 0); got != "" || to != 0 || err != api.ErrWire {
			t.Errorf("ReadText of %d bytes: %q, %d, %d", len(s), got, to, err)
		}
	}
	for _, at := range []int{-1, 3, math.MaxInt} {
		if got, to, err := wire.ReadText("\x02a", at); got != "" || to != 0 || err != api.ErrWire {
			t.Errorf("ReadText at %d: %q, %d, %d", at, got, to, err)
		}
	}
}

func TestSum(t *testing.T) {
	for s, want := range map[string]int{
		"": 0, "a": 0xe8b7be43, "123456789": 0xcbf43926, "\x00": 0xd202ef8d, strings.Repeat("\x00", 32): 0x190a55ad,
	} {
		if got := wire.Sum(s); got != want {
			t.Errorf("Sum(%q) = %x, want %x", s, got, want)
		}
	}
}

func TestSumsOfTextsThatAreUnlikeInOneByteAreUnlike(t *testing.T) {
	text := []byte(strings.Repeat("moraine\x00\xff", 7))
	sum := wire.Sum(string(text))
	if sum < 0 || sum > math.MaxUint32 {
		t.Errorf("the sum %d is none of 32 bits", sum)
	}
	for at := range text {
		for mask := 1; mask < 256; mask++ {
			text[at] ^= byte(mask)
			if wire.Sum(string(text)) == sum {
				t.Fatalf("byte %d turned by %x makes no difference", at, mask)
			}
			text[at] ^= byte(mask)
		}
	}
}
