package expr

import (
	"iter"
	"slices"
	"strings"

	"moraine/api"
	"moraine/val"
	"moraine/words"
)

// sign is the kind of pieces that are none of api's kinds of leaves.
const sign = api.EOp

// piece is one: its kind (ENum, EText, EField, or a sign), its place, what it says.
type piece struct {
	kind int
	at   int
	n    int
	s    string
}

// scan are the pieces of a text; where none can be read the last one tells false, and just its place.
func scan(s string) iter.Seq2[piece, bool] {
	return func(yield func(piece, bool) bool) {
		for at := 0; at < len(s); {
			if s[at] == ' ' {
				at++
				continue
			}
			p, to, ok := pieceAt(s, at)
			if !ok {
				yield(piece{at: at}, false)
				return
			}
			p.at, at = at, to
			if !yield(p, true) {
				return
			}
		}
	}
}

// pieceAt is the piece that begins there, and the place behind it.
func pieceAt(s string, at int) (piece, int, bool) {
	switch {
	case words.Digit(s[at]):
		return numberAt(s, at)
	case words.Letter(s[at]):
		to := at
		for to < len(s) && words.InName(s[to]) {
			to++
		}
		return piece{kind: api.EField, s: s[at:to]}, to, words.Name(s[at:to])
	case s[at] == '"':
		v, to, err := val.Read(s, at)
		return piece{kind: api.EText, s: v.S}, to, err == api.OK
	}
	return signAt(s, at, "<>", "<=", ">=", "<", ">", "=", "&", "+", "-", "*", "/", "%", "(", ")", ",")
}

func numberAt(s string, at int) (piece, int, bool) {
	n := 0
	for at < len(s) && words.Digit(s[at]) {
		// Whatever is above the limit stays there.
		n = min(n*10+int(s[at]-'0'), api.MaxNum+1)
		at++
	}
	return piece{kind: api.ENum, n: n}, at, n <= api.MaxNum
}

// signAt is the first one of signs that stands there: longer ones have to come ahead of those that they begin with.
func signAt(s string, at int, signs ...string) (piece, int, bool) {
	for _, one := range signs {
		if strings.HasPrefix(s[at:], one) {
			return piece{kind: sign, s: one}, at + len(one), true
		}
	}
	return piece{}, 0, false
}

// pieces are those that were not taken yet, and the place behind all.
type pieces struct {
	list []piece
	end  int
}

// ahead is the next one; at the end it is of no kind.
func (p *pieces) ahead() piece {
	if len(p.list) == 0 {
		return piece{at: p.end}
	}
	return p.list[0]
}

// take is the next one, which is behind then.
func (p *pieces) take() piece {
	next := p.ahead()
	if len(p.list) > 0 {
		p.list = p.list[1:]
	}
	return next
}

// is tells whether the next one is one of these signs.
func (p *pieces) is(signs ...string) bool {
	next := p.ahead()
	return next.kind == sign && slices.Contains(signs, next.s)
}
