// Package order tells in which order records stand.
package order

import (
	"cmp"

	"moraine/api"
)

// Recs tells which of two records stands ahead: -1, 0 or 1. Those of one key stand beside each other.
func Recs(a, b api.Rec) int {
	if c := cmp.Compare(rank(a.Kind), rank(b.Kind)); c != 0 {
		return c
	}
	switch a.Kind {
	case api.RClass:
		return cmp.Compare(a.ID, b.ID)
	case api.RChange:
		return cmp.Or(cmp.Compare(a.ID, b.ID), cmp.Compare(a.Ver, b.Ver))
	case api.RPut:
		return cmp.Compare(a.Obj.ID, b.Obj.ID)
	}
	return cmp.Compare(a.Name, b.Name)
}

// rank is the place of a kind of records: what others need stands ahead of them.
func rank(kind int) int {
	switch kind {
	case api.RClass:
		return 1
	case api.RChange:
		return 2
	case api.RPut:
		return 3
	case api.RRoot:
		return 4
	}
	return kind
}
