// Package words tells which names and texts are right, and writes texts in quotes: what several layers' languages have in common.
package words

import (
	"strings"
	"unicode/utf8"

	"moraine/api"
)

// Name tells whether a name is right.
func Name(s string) bool {
	if len(s) < 1 || len(s) > api.MaxName || !Letter(s[0]) {
		return false
	}
	for i := range len(s) {
		if !InName(s[i]) {
			return false
		}
	}
	return true
}

// Letter tells whether a byte may begin a name, InName whether it may go on with one.
func Letter(b byte) bool { return b >= 'a' && b <= 'z' }

func InName(b byte) bool { return Letter(b) || Digit(b) || b == '_' }

// Digit tells whether a byte is one.
func Digit(b byte) bool { return b >= '0' && b <= '9' }

// Text tells whether a text is right.
func Text(s string) bool {
	for _, r := range s {
		if r < ' ' || r == 0x7f {
			return false
		}
	}
	return utf8.ValidString(s)
}

// Quote is a text in quotes.
func Quote(s string) string {
	var b strings.Builder
	b.WriteByte('"')
	for i := range len(s) {
		if s[i] == '"' || s[i] == '\\' {
			b.WriteByte('\\')
		}
		b.WriteByte(s[i])
	}
	b.WriteByte('"')
	return b.String()
}

// Unquote is the text that stands in quotes in s from at on, and the place behind the quotes.
func Unquote(s string, at int) (string, int, bool) {
	if at < 0 || at >= len(s) || s[at] != '"' {
		return "", 0, false
	}
	var text []byte
	for i := at + 1; i < len(s); i++ {
		switch s[i] {
		case '"':
			return string(text), i + 1, true
		case '\\':
			i++
			if i == len(s) || s[i] != '"' && s[i] != '\\' {
				return "", 0, false
			}
		}
		text = append(text, s[i])
	}
	return "", 0, false
}

// KindName is how a kind of values is written in a type; KindOf the kind that is written so, or none.
func KindName(kind int) string {
	switch kind {
	case api.Num:
		return "num"
	case api.Text:
		return "text"
	case api.Ref:
		return "ref"
	case api.Weak:
		return "weak"
	}
	return "list"
}

func KindOf(name string) int {
	for kind := api.Num; kind <= api.List; kind++ {
		if KindName(kind) == name {
			return kind
		}
	}
	return api.Nil
}
