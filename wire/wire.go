// Package wire is layer 1: numbers and texts as bytes, and their sums: see shared/doc/01-wire.md.
package wire

import (
	"errors"
	"iter"
	"strings"

	"moraine/api"
)

// more is added to each byte of a number but the last one.
const more = 128

// polynomial is the sum's, its bits the other way round.
const polynomial = 0xedb88320

var errNone = errors.New("nothing was laid here")

// Num are a number's bytes.
func Num(n int) string {
	var laid []byte
	for group := range groups(n) {
		if len(laid) > 0 {
			laid[len(laid)-1] += more
		}
		laid = append(laid, group)
	}
	return string(laid)
}

// groups are those of a number, the least one first.
func groups(n int) iter.Seq[byte] {
	return func(yield func(byte) bool) {
		rest, sign := uint64(n), byte(0)
		if n < 0 {
			rest, sign = uint64(-1-n), 1
		}
		if !yield(byte(rest%64)*2 + sign) {
			return
		}
		for rest /= 64; rest > 0; rest /= 128 {
			if !yield(byte(rest % 128)) {
				return
			}
		}
	}
}

// ReadNum is the number whose bytes stand in s from at on, and the place behind them.
func ReadNum(s string, at int) (int, int, api.Errno) {
	r := reader{text{s, at}}
	n, err := r.number()
	if errors.Is(err, errNone) {
		return 0, 0, api.ErrWire
	}
	return n, r.at, api.OK
}

// Text are a text's bytes.
func Text(s string) (string, api.Errno) {
	if len(s) > api.MaxBytes {
		return "", api.ErrWire
	}
	return Num(len(s)) + s, api.OK
}

// ReadText is the text whose bytes stand in s from at on, and the place behind them.
func ReadText(s string, at int) (string, int, api.Errno) {
	r := reader{text{s, at}}
	found, err := r.words()
	if errors.Is(err, errNone) {
		return "", 0, api.ErrWire
	}
	return found, r.at, api.OK
}

// text is what is read, and how far it was.
type text struct {
	s  string
	at int
}

// bytes are those that were not read yet; each one that is taken is read then.
func (t *text) bytes() iter.Seq[byte] {
	return func(yield func(byte) bool) {
		for t.at >= 0 && t.at < len(t.s) {
			t.at++
			if !yield(t.s[t.at-1]) {
				return
			}
		}
	}
}

// reader reads numbers and texts of a text.
type reader struct {
	text
}

// number is the next one. What would be written in other bytes than those that stand there was never written.
func (r *reader) number() (int, error) {
	from, places, sign, rest := r.at, 0, 0, 0
reading:
	for b := range r.bytes() {
		group := int(b % more)
		if places == 0 {
			sign, rest = group%2, group/2
		} else {
			rest += group << (7*places - 1)
		}
		places++
		switch {
		case b < more:
			if sign == 1 {
				rest = -1 - rest
			}
			if strings.HasPrefix(r.s[from:], Num(rest)) {
				return rest, nil
			}
			break reading
		case places == 10:
			break reading
		}
	}
	return 0, errNone
}

// words are the next text.
func (r *reader) words() (string, error) {
	size, err := r.number()
	if err != nil {
		return "", err
	}
	if size < 0 || size > api.MaxBytes || size > len(r.s)-r.at {
		return "", errNone
	}
	r.at += size
	return r.s[r.at-size : r.at], nil
}

// Sum is a text's sum.
func Sum(s string) int {
	c := ^uint32(0)
	turn := func() {
		if c%2 == 1 {
			c = c/2 ^ polynomial
		} else {
			c /= 2
		}
	}
	for i := range len(s) {
		c ^= uint32(s[i])
		for range 8 {
			turn()
		}
	}
	return int(^c)
}
