package words_test

import (
	"strings"
	"testing"

	"moraine/api"
	"moraine/words"
)

func TestName(t *testing.T) {
	for s, want := range map[string]bool{
		"a": true, "z9_": true, strings.Repeat("a", 20): true, "": false, strings.Repeat("a", 21): false,
		"9a": false, "_a": false, "A": false, "aB": false, "a b": false, "a-": false, "ä": false, "a\x00": false,
	} {
		if words.Name(s) != want {
			t.Errorf("Name(%q) = %t", s, !want)
		}
	}
}

func TestText(t *testing.T) {
	for s, want := range map[string]bool{
		"": true, " ~": true, "ü\u0080\U0010ffff\ufffd": true, "\x1f": false, "\x7f": false, "\xff": false, "a\xc3": false, "\xed\xa0\x80": false,
	} {
		if words.Text(s) != want {
			t.Errorf("Text(%q) = %t", s, !want)
		}
	}
}

func TestQuotes(t *testing.T) {
	for _, s := range []string{"", "a", `"`, `\`, `a"b\c`, "\xff"} {
		if got, to, ok := words.Unquote("x"+words.Quote(s)+"y", 1); got != s || to != 1+len(words.Quote(s)) || !ok {
			t.Errorf("%q comes back as %q, %d, %t", s, got, to, ok)
		}
	}
	for _, s := range []string{"", "a", `"`, `"a`, `"\"`, `"\a"`} {
		if got, to, ok := words.Unquote(s, 0); got != "" || to != 0 || ok {
			t.Errorf("Unquote(%s): %q, %d, %t", s, got, to, ok)
		}
	}
}

func TestKinds(t *testing.T) {
	for kind, name := range map[int]string{api.Num: "num", api.Text: "text", api.Ref: "ref", api.Weak: "weak", api.List: "list"} {
		if words.KindName(kind) != name || words.KindOf(name) != kind {
			t.Errorf("%d: %s, %s: %d", kind, words.KindName(kind), name, words.KindOf(name))
		}
	}
	for _, name := range []string{"", "nil", "Num", "lists"} {
		if words.KindOf(name) != api.Nil {
			t.Errorf("KindOf %q", name)
		}
	}
}
