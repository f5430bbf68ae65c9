package val

import (
	"strings"

	"moraine/api"
	"moraine/wire"
)

// Encode are a value's bytes.
func Encode(v api.Val) (string, api.Errno) {
	if !Right(v) {
		return "", api.ErrVal
	}
	var b strings.Builder
	lay(&b, v)
	return b.String(), api.OK
}

func lay(b *strings.Builder, v api.Val) {
	b.WriteString(wire.Num(v.Kind))
	switch v.Kind {
	case api.Num, api.Ref, api.Weak:
		b.WriteString(wire.Num(v.N))
	case api.Text:
		laid, _ := wire.Text(v.S)
		b.WriteString(laid)
	case api.List:
		b.WriteString(wire.Num(len(v.L)))
		for _, item := range v.L {
			lay(b, item)
		}
	}
}

// reader tells numbers and texts, one behind the other.
type reader struct {
	num  func() (int, api.Errno)
	text func() (string, api.Errno)
}

// Decode is the value whose bytes stand in s from at on, and the place behind them.
func Decode(s string, at int) (api.Val, int, api.Errno) {
	if at < 0 || at > len(s) {
		return api.Val{}, 0, api.ErrArg
	}
	r := reader{
		num: func() (n int, err api.Errno) {
			n, at, err = wire.ReadNum(s, at)
			return n, err
		},
		text: func() (text string, err api.Errno) {
			text, at, err = wire.ReadText(s, at)
			return text, err
		},
	}
	v, err := r.value(true)
	if err != api.OK {
		return api.Val{}, 0, err
	}
	return v, at, api.OK
}

// value is the next one; lists may stand only where they are not within one.
func (r reader) value(lists bool) (api.Val, api.Errno) {
	kind, err := r.num()
	if err != api.OK {
		return api.Val{}, err
	}
	v := api.Val{Kind: kind}
	switch {
	case kind == api.Num || kind == api.Ref || kind == api.Weak:
		v.N, err = r.num()
	case kind == api.Text:
		v.S, err = r.text()
	case kind == api.List && lists:
		v.L, err = r.list()
	case kind != api.Nil:
		err = api.ErrVal
	}
	if err == api.OK && !Right(v) {
		err = api.ErrVal
	}
	if err != api.OK {
		return api.Val{}, err
	}
	return v, api.OK
}

func (r reader) list() ([]api.Val, api.Errno) {
	size, err := r.num()
	if err != api.OK {
		return nil, err
	}
	if size < 0 || size > api.MaxList {
		return nil, api.ErrVal
	}
	var list []api.Val
	for range size {
		v, err := r.value(false)
		if err != api.OK {
			return nil, err
		}
		list = append(list, v)
	}
	return list, api.OK
}
