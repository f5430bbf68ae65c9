package obj

import (
	"errors"
	"strings"

	"moraine/api"
	"moraine/parts"
	"moraine/val"
	"moraine/wire"
)

// Encode are an object's bytes.
func Encode(o api.Obj) (string, api.Errno) {
	if !couldBe(o) {
		return "", api.ErrObj
	}
	var b strings.Builder
	for _, n := range []int{o.ID, o.Class, o.Ver, len(o.Vals)} {
		b.WriteString(wire.Num(n))
	}
	for _, v := range o.Vals {
		laid, _ := val.Encode(v)
		b.WriteString(laid)
	}
	return b.String(), api.OK
}

// fault is what bytes tell that are no object's.
type fault struct{ number api.Errno }

func (f fault) Error() string { return "no object was laid here" }

// reader reads objects of a text.
type reader struct{ *parts.Reader }

// Decode is the object whose bytes stand in s from at on, and the place behind them.
func Decode(s string, at int) (api.Obj, int, api.Errno) {
	r := reader{parts.New(s, at)}
	o, to, err := r.object()
	var wrong fault
	if errors.As(err, &wrong) {
		return api.Obj{}, 0, wrong.number
	}
	return o, to, api.OK
}

func (r reader) object() (api.Obj, int, error) {
	o := api.Obj{ID: r.Num(), Class: r.Num(), Ver: r.Num()}
	size := r.Num()
	if size < 0 || size > api.MaxFields {
		return api.Obj{}, 0, fault{api.ErrObj}
	}
	for range size {
		o.Vals = append(o.Vals, parts.Next(r.Reader, val.Decode))
	}
	to, ok := r.End()
	if !ok || !couldBe(o) {
		return api.Obj{}, 0, fault{api.ErrObj}
	}
	return o, to, nil
}
