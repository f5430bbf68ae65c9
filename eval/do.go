package eval

import (
	"strconv"
	"strings"
	"unicode/utf8"

	"moraine/api"
	"moraine/val"
)

// num is a number's value, text a text's, both cut.
func num(n int) api.Val {
	return api.Val{Kind: api.Num, N: max(-api.MaxNum, min(n, api.MaxNum))}
}

func text(s string) api.Val {
	for at, sign := range s {
		if at+utf8.RuneLen(sign) > api.MaxText {
			s = s[:at]
			break
		}
	}
	return api.Val{Kind: api.Text, S: s}
}

func truth(so bool) api.Val {
	if so {
		return num(1)
	}
	return num(0)
}

// operate is what an operator makes of two values.
func operate(sign string, a, b api.Val) api.Val {
	order := val.Compare(a, b)
	switch sign {
	case "=":
		return truth(order == 0)
	case "<>":
		return truth(order != 0)
	case "<=":
		if order == 0 {
			return truth(true)
		}
		fallthrough
	case "<":
		return truth(order < 0)
	case ">=":
		if order == 0 {
			return truth(true)
		}
		fallthrough
	case ">":
		return truth(order > 0)
	case "&":
		return text(a.S + b.S)
	}
	return num(reckon(sign, a.N, b.N))
}

func reckon(sign string, a, b int) int {
	switch sign {
	case "-":
		b = -b
		fallthrough
	case "+":
		return a + b
	case "*":
		return times(a, b)
	}
	switch {
	case b == 0:
		return 0
	case sign == "/":
		return a / b
	}
	return a % b
}

// times is a product, or, if that is above the limit, something that is, too: the true one may be more than an int holds.
func times(a, b int) int {
	if a == 0 || b == 0 {
		return 0
	}
	if max(a, -a) <= api.MaxNum/max(b, -b) {
		return a * b
	}
	if (a < 0) != (b < 0) {
		return -api.MaxNum
	}
	return api.MaxNum
}

// call is one: the kinds that it takes and gives, and what it does.
type call struct {
	takes []int
	gives int
	do    func(l []api.Val) api.Val
}

func calls() map[string]call {
	return map[string]call{
		"len":  {[]int{api.Text}, api.Num, func(l []api.Val) api.Val { return num(signs(l[0].S)) }},
		"left": {[]int{api.Text, api.Num}, api.Text, func(l []api.Val) api.Val { return text(l[0].S[:behind(l[0].S, l[1].N)]) }},
		"right": {[]int{api.Text, api.Num}, api.Text, func(l []api.Val) api.Val {
			return text(l[0].S[behind(l[0].S, signs(l[0].S)-max(l[1].N, 0)):])
		}},
		"from": {[]int{api.Text, api.Num}, api.Text, func(l []api.Val) api.Val { return text(l[0].S[behind(l[0].S, l[1].N):]) }},
		"find": {[]int{api.Text, api.Text}, api.Num, func(l []api.Val) api.Val { return num(find(l[0].S, l[1].S)) }},
		"text": {[]int{api.Num}, api.Text, func(l []api.Val) api.Val { return text(strconv.Itoa(l[0].N)) }},
		"num":  {[]int{api.Text}, api.Num, func(l []api.Val) api.Val { return num(read(l[0].S)) }},
		"if": {[]int{api.Num, either, either}, either, func(l []api.Val) api.Val {
			if l[0].N != 0 {
				return l[1]
			}
			return l[2]
		}},
		"min": {[]int{api.Num, api.Num}, api.Num, func(l []api.Val) api.Val { return num(min(l[0].N, l[1].N)) }},
		"max": {[]int{api.Num, api.Num}, api.Num, func(l []api.Val) api.Val { return num(max(l[0].N, l[1].N)) }},
	}
}

func signs(s string) int { return utf8.RuneCountInString(s) }

// behind is the place behind the first n signs of a text, its end if it has not so many.
func behind(s string, n int) int {
	for at := range s {
		if n <= 0 {
			return at
		}
		n--
	}
	return len(s)
}

// find is how many signs stand in s ahead of the first place of another text.
func find(s, other string) int {
	at := strings.Index(s, other)
	if at < 0 {
		return -1
	}
	return signs(s[:at])
}

// read is the number that a text is just as it is written.
func read(s string) int {
	v, to, err := val.Read(s, 0)
	if err != api.OK || v.Kind != api.Num || to != len(s) {
		return 0
	}
	return v.N
}
