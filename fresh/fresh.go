// Package fresh makes copies that share no memory with what they are of.
package fresh

import "moraine/api"

// Each is a new list of what a function tells of each item.
func Each[T any](l []T, copied func(T) T) []T {
	var made []T
	for _, item := range l {
		made = append(made, copied(item))
	}
	return made
}

// Val is a copy of a value, Vals one of a list of them.
func Val(v api.Val) api.Val {
	v.L = Vals(v.L)
	return v
}

func Vals(l []api.Val) []api.Val { return Each(l, Val) }
