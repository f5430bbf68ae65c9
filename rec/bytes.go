package rec

import (
	"strings"

	"moraine/api"
	"moraine/wire"
)

// nums are the bytes of numbers.
func nums(l ...int) string {
	var b strings.Builder
	for _, n := range l {
		b.WriteString(wire.Num(n))
	}
	return b.String()
}

func layNamed(r api.Rec) string { return sure(wire.Text(r.Name)) + nums(r.ID) }

// Size is how many bytes a record has.
func Size(r api.Rec) (int, api.Errno) {
	k, ok := kindOf(r)
	if !ok {
		return 0, api.ErrRec
	}
	return len(nums(r.Kind) + k.lay(r)), api.OK
}

// Encode are a batch's bytes.
func Encode(b api.Batch) (string, api.Errno) {
	if !Right(b) {
		return "", api.ErrRec
	}
	var laid strings.Builder
	known := kinds()
	laid.WriteString(nums(b.Kind, b.N, b.Next, len(b.Recs)))
	for i, r := range b.Recs {
		if b.Kind == api.BCopy {
			laid.WriteString(nums(b.Vers[i]))
		}
		laid.WriteString(nums(r.Kind) + known[r.Kind].lay(r))
	}
	if laid.Len() > api.MaxBytes {
		return "", api.ErrRec
	}
	return laid.String(), api.OK
}

// fault is what a reader panics with.
type fault struct{}

// reader reads parts of a batch's bytes.
type reader struct {
	s  string
	at int
}

// next is the next part, told by the function that reads parts of its kind.
func next[T any](r *reader, read func(string, int) (T, int, api.Errno)) T {
	part, to, err := read(r.s, r.at)
	if err != api.OK {
		panic(fault{})
	}
	r.at = to
	return part
}

func (r *reader) num() int { return next(r, wire.ReadNum) }

func (r *reader) named() api.Rec { return api.Rec{Name: next(r, wire.ReadText), ID: r.num()} }

// Decode is the batch of some bytes.
func Decode(s string) (api.Batch, api.Errno) {
	r := &reader{s: s}
	b, ok := r.whole()
	if !ok || len(s) > api.MaxBytes || r.at != len(s) || !Right(b) {
		return api.Batch{}, api.ErrRec
	}
	return b, api.OK
}

// whole is the batch that stands there, if one does.
func (r *reader) whole() (b api.Batch, ok bool) {
	defer func() {
		if _, wrong := recover().(fault); wrong {
			b, ok = api.Batch{}, false
		}
	}()
	return r.batch(), true
}

func (r *reader) batch() api.Batch {
	b := api.Batch{Kind: r.num(), N: r.num(), Next: r.num()}
	size := r.num()
	if size < 0 || size > api.MaxRecs {
		panic(fault{})
	}
	known := kinds()
	for range size {
		if b.Kind == api.BCopy {
			b.Vers = append(b.Vers, r.num())
		}
		number := r.num()
		k, ok := known[number]
		if !ok {
			panic(fault{})
		}
		one := k.read(r)
		one.Kind = number
		b.Recs = append(b.Recs, one)
	}
	return b
}
