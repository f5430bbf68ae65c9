package val

import (
	"strconv"
	"strings"

	"moraine/api"
	"moraine/words"
)

// Text is how a value is written.
func Text(v api.Val) (string, api.Errno) {
	if !Right(v) {
		return "", api.ErrVal
	}
	return written(v), api.OK
}

func written(v api.Val) string {
	switch v.Kind {
	case api.Num:
		return strconv.Itoa(v.N)
	case api.Text:
		return words.Quote(v.S)
	case api.Ref:
		return "@" + strconv.Itoa(v.N)
	case api.Weak:
		return "~" + strconv.Itoa(v.N)
	case api.List:
		var items []string
		for _, item := range v.L {
			items = append(items, written(item))
		}
		return "[" + strings.Join(items, " ") + "]"
	}
	return "-"
}

// Read is the value that is written in s from at on, and the place behind it.
func Read(s string, at int) (api.Val, int, api.Errno) {
	if at < 0 || at > len(s) {
		return api.Val{}, at, api.ErrArg
	}
	v, to, ok := read(s, at)
	if !ok {
		v, to, ok = readList(s, at)
	}
	if !ok {
		return api.Val{}, at, api.ErrVal
	}
	return v, to, api.OK
}

// read is a value that is no list.
func read(s string, at int) (api.Val, int, bool) {
	if at >= len(s) {
		return api.Val{}, 0, false
	}
	var v api.Val
	var to int
	var ok bool
	switch s[at] {
	case '"':
		v.Kind = api.Text
		v.S, to, ok = words.Unquote(s, at)
	case '@':
		v.Kind = api.Ref
		v.N, to, ok = readNum(s, at+1, -api.MaxOps, api.MaxID)
	case '~':
		v.Kind = api.Weak
		v.N, to, ok = readNum(s, at+1, -api.MaxOps, api.MaxID)
	default:
		v.Kind = api.Num
		v.N, to, ok = readNum(s, at, -api.MaxNum, api.MaxNum)
		if !ok && s[at] == '-' {
			return api.Val{}, at + 1, true
		}
	}
	if !ok || !Right(v) {
		return api.Val{}, 0, false
	}
	return v, to, true
}

// readNum takes as many digits as make a number from least (below 0) to most (above 0): with one more there would be none.
func readNum(s string, at, least, most int) (int, int, bool) {
	sign := 1
	if at < len(s) && s[at] == '-' {
		sign, most, at = -1, -least, at+1
	}
	if at < len(s) && s[at] == '0' {
		return 0, at + 1, sign > 0
	}
	n, from := 0, at
	for at < len(s) && words.Digit(s[at]) && n*10+int(s[at]-'0') <= most {
		n = n*10 + int(s[at]-'0')
		at++
	}
	return sign * n, at, at > from
}

func readList(s string, at int) (api.Val, int, bool) {
	list := api.Val{Kind: api.List}
	if at >= len(s) || s[at] != '[' {
		return api.Val{}, 0, false
	}
	at++
	for at < len(s) && len(list.L) <= api.MaxList {
		if s[at] == ']' {
			return list, at + 1, true
		}
		if len(list.L) > 0 {
			if s[at] != ' ' {
				break
			}
			at++
		}
		v, to, ok := read(s, at)
		if !ok {
			break
		}
		list.L, at = append(list.L, v), to
	}
	return api.Val{}, 0, false
}
