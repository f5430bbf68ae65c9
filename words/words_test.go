package words_test

import (
	"strings"
	"testing"

	"moraine/words"
)

func TestName(t *testing.T) {
	for s, want := range map[string]bool{
		"a": true, "z9_": true, strings.Repeat("a", 20): true, "": false, strings.Repeat("a", 21): false,
		"9a": false, "_a": false, "A": false, "aB": false, "a b": false, "a-": false, "ä": false, "a\x00": false,
	} {
		if words.Name(s) != want {
			t.Errorf("Name(%q) = %t", s, !want)
		}
	}
}

func TestText(t *testing.T) {
	for s, want := range map[string]bool{
		"": true, " ~": true, "ü\u0080\U0010ffff\ufffd": true, "\x1f": false, "\x7f": false, "\xff": false, "a\xc3": false, "\xed\xa0\x80": false,
	} {
		if words.Text(s) != want {
			t.Errorf("Text(%q) = %t", s, !want)
		}
	}
}

func TestQuotes(t *testing.T) {
	for _, s := range []string{"", "a", `"`, `\`, `a"b\c`, "\xff"} {
		if got, to, ok := words.Unquote("x"+words.Quote(s)+"y", 1); got != s || to != 1+len(words.Quote(s)) || !ok {
			t.Errorf("%q comes back as %q, %d, %t", s, got, to, ok)
		}
	}
	for _, s := range []string{"", "a", `"`, `"a`, `"\"`, `"\a"`} {
		if got, to, ok := words.Unquote(s, 0); got != "" || to != 0 || ok {
			t.Errorf("Unquote(%s): %q, %d, %t", s, got, to, ok)
		}
	}
}
