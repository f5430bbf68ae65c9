// Package fresh makes copies that share no memory with what they are of.
package fresh

import "moraine/api"

// Each is a new list of what a function makes of each item.
func Each[T, U any](l []T, of func(T) U) []U {
	var made []U
	for _, item := range l {
		made = append(made, of(item))
	}
	return made
}

// Val is a copy of a value, Vals one of a list of them.
func Val(v api.Val) api.Val {
	v.L = Vals(v.L)
	return v
}

func Vals(l []api.Val) []api.Val { return Each(l, Val) }
