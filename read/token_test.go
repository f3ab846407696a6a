package read

import (
	"strings"
	"testing"
)

func tokens(src string) []token {
	var l []token
	for from := 0; ; {
		t := scan(src, from)
		l = append(l, t)
		if t.kind == end || t.kind == none {
			return l
		}
		from = t.place + len(t.text)
	}
}

func TestTokens(t *testing.T) {
	long := strings.Repeat("0", 40) + "12"
	src := " node\nnodes a1_ 1fby<=<>< -> - >="
	want := []token{
		{fixed, "node", 1, 0}, {name, "nodes", 6, 0}, {name, "a1_", 12, 0}, {number, "1", 16, 1}, {fixed, "fby", 17, 0},
		{fixed, "<=", 20, 0}, {fixed, "<>", 22, 0}, {fixed, "<", 24, 0}, {fixed, "->", 26, 0}, {fixed, "-", 29, 0}, {none, "", 31, 0},
	}
	same(t, src, want)
	same(t, "", []token{{end, "", 0, 0}})
	same(t, " \n ", []token{{end, "", 3, 0}})
	same(t, long, []token{{number, long, 0, 12}, {end, "", 42, 0}})
	same(t, "9223372036854775807", []token{{number, "9223372036854775807", 0, 9223372036854775807}, {end, "", 19, 0}})
	same(t, " 9223372036854775808", []token{{none, "", 1, 0}})
	same(t, "abcdefghijkl", []token{{name, "abcdefghijkl", 0, 0}, {end, "", 12, 0}})
	same(t, "a abcdefghijklm", []token{{name, "a", 0, 0}, {none, "", 2, 0}})
}

func same(t *testing.T, src string, want []token) {
	t.Helper()
	got := tokens(src)
	if len(got) != len(want) {
		t.Errorf("tokens of %q: %v, want %v", src, got, want)
		return
	}
	for i := range got {
		if got[i] != want[i] {
			t.Errorf("token %d of %q: %v, want %v", i, src, got[i], want[i])
		}
	}
}

func TestEveryByteAlone(t *testing.T) {
	const signs = "(){}:;,=<+-*/%"
	for b := range 256 {
		want := none
		switch c := byte(b); {
		case c == ' ' || c == '\n':
			want = end
		case 'a' <= c && c <= 'z':
			want = name
		case '0' <= c && c <= '9':
			want = number
		case strings.IndexByte(signs, c) >= 0:
			want = fixed
		}
		if got := scan(string([]byte{byte(b)}), 0); got.kind != want {
			t.Errorf("byte %d is of kind %d, want %d", b, got.kind, want)
		}
	}
}

func TestKeywords(t *testing.T) {
	for _, k := range strings.Fields("node var int bool on not and or xor if then else merge when whenot fby true false") {
		if got := scan(k, 0); got.kind != fixed || got.text != k {
			t.Errorf("%q is read as %v", k, got)
		}
		if got := scan(k+"_", 0); got.kind != name {
			t.Errorf("%q is read as %v", k+"_", got)
		}
	}
}
