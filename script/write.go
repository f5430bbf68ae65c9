package script

import (
	"strconv"
	"strings"

	"moraine/api"
	"moraine/val"
	"moraine/words"
)

// line is how a right act is written.
func line(a api.Act) string {
	switch a.Kind {
	case api.ActCommit:
		return commitLine(a.Txns)
	case api.ActCollect:
		return joined("collect", number(a.N))
	case api.ActCrash:
		l := []string{"crash"}
		for _, k := range a.Keep {
			l = append(l, number(k))
		}
		return joined(l...)
	case api.ActRot:
		return joined("rot", number(a.N), number(a.At), number(a.Mask))
	case api.ActAsk:
		return joined("ask", words.Quote(a.S))
	}
	return joined("cut", number(a.N))
}

func joined(l ...string) string { return strings.Join(l, " ") }

func number(n int) string { return strconv.Itoa(n) }

func commitLine(txns []api.Txn) string {
	l := []string{"commit"}
	for i, t := range txns {
		if i > 0 {
			l = append(l, "|")
		}
		l = append(l, number(t.Base), ":")
		for k, o := range t.Ops {
			if k > 0 {
				l = append(l, ";")
			}
			l = append(l, opText(o))
		}
	}
	return joined(l...)
}

func opText(o api.Op) string {
	switch o.Kind {
	case api.OpNew:
		l := []string{"new", o.Class}
		for _, v := range o.Vals {
			l = append(l, valText(v))
		}
		return joined(l...)
	case api.OpSet:
		return joined("set", number(o.ID), o.Name, valText(o.Val))
	case api.OpRoot:
		return joined("root", o.Name, number(o.ID))
	case api.OpNoRoot:
		return joined("unroot", o.Name)
	case api.OpClass:
		return classText(o.Def)
	case api.OpChange:
		return joined("change", o.Class, changeText(o.Change))
	case api.OpRead:
		return joined("read", number(o.ID))
	case api.OpReadRoot:
		return joined("see", o.Name)
	case api.OpSnap:
		return joined("snap", o.Name)
	}
	return joined("unsnap", o.Name)
}

func valText(v api.Val) string {
	s, _ := val.Text(v)
	return s
}

func classText(c api.Class) string {
	l := []string{"class", c.Name}
	for _, f := range c.Fields {
		s := f.Name + ":" + typeText(f.Type)
		if f.Indexed {
			s += "!"
		}
		l = append(l, s)
	}
	return joined(l...)
}

func typeText(t api.Type) string {
	if t.Kind == api.List {
		return words.KindName(t.Kind) + "." + words.KindName(t.Of)
	}
	return words.KindName(t.Kind)
}

func changeText(ch api.Change) string {
	typed, e := typeText(ch.Type), words.Quote(ch.Expr)
	switch ch.Kind {
	case api.ChAdd:
		return joined("add", ch.Name, typed, e)
	case api.ChDrop:
		return joined("drop", ch.Field)
	case api.ChRename:
		return joined("rename", ch.Field, ch.Name)
	case api.ChTurn:
		return joined("turn", ch.Field, typed, e)
	case api.ChSplit:
		return joined("split", ch.Field, ch.Name, ch.More, typed, e, words.Quote(ch.Other))
	}
	return joined("index", ch.Field)
}
