package facts

import (
	"strconv"
	"strings"
	"testing"

	"cadence/read"
	"cadence/tree"
)

func TestClockTable(t *testing.T) {
	p, err := read.Program("node n(c: bool) -> (y: int) var d: bool on not c; x: int on d; u: bool on v; v: bool on not u; w: int on u; { y = 1; }")
	if err != nil {
		t.Fatal(err)
	}
	s := ScopeOf(p, 0)
	c := ClocksOf(s)
	want := map[string]Clock{"c": {}, "y": {}, "d": {0, 2}, "x": {2, 1}, "u": {5, 1}, "v": {4, 2}, "w": {4, 1}}
	for name, k := range want {
		i, _ := s.Node.Find(name)
		if c.Of(i) != k {
			t.Errorf("the clock of %s is %v, want %v", name, c.Of(i), k)
		}
		if back := name == "u" || name == "v"; c.ComesBack(i) != back {
			t.Errorf("%s comes back: %v, want %v", name, !back, back)
		}
	}
}

func TestLinks(t *testing.T) {
	const head = "node f(a: int, b: int) -> (y: int, z: int) { y = a; z = b; } node n(a: int, c: bool) -> (y: int) "
	const vars = "var d: bool on c; x: int on not d; u: int; v: int; "
	p, err := read.Program(head + vars + "{ y = if c then a else 0 fby v; d = true; x = 1 fby (a when c whenot d); u = merge c (merge d 1 x) (a whenot c); (u, v) = f(y, 0 fby u); }")
	if err != nil {
		t.Fatal(err)
	}
	s := ScopeOf(p, 1)
	got := LinksOf(s)
	want := map[string]string{"y": "ca", "d": "c", "x": "d", "u": "cdxay", "v": "y", "a": "", "c": ""}
	for i, from := range s.Node.Vars {
		for j, to := range s.Node.Vars {
			if hangs := strings.Contains(want[from.Name.Text], to.Name.Text); got.Has(i, j) != hangs {
				t.Errorf("%s hangs on %s: %v, want %v", from.Name.Text, to.Name.Text, !hangs, hangs)
			}
		}
	}
	got.Follow(len(s.Node.Vars))
	if i, _ := s.Node.Find("v"); !got.Has(i, 0) || !got.Has(i, 1) || got.Has(i, i) {
		t.Errorf("v hangs by others on a and c, and not on itself: %v", got)
	}
}

func TestWalkTellsTheClockOfEachExpr(t *testing.T) {
	const src = "node n(c: bool, a: int) -> (y: int) var d: bool on c; x: int on not d; { x = 1 fby (a when c whenot d) + 2; d = true; y = merge c (merge d 3 x) (-(a whenot c)); }"
	p, err := read.Program(src)
	if err != nil {
		t.Fatal(err)
	}
	s := ScopeOf(p, 0)
	c := ClocksOf(s)
	tell := func(k Clock) string {
		if k.Sign == tree.Always {
			return "base"
		}
		return []string{"", "on ", "on not "}[k.Sign] + s.Node.Vars[k.Variable].Name.Text
	}
	for _, w := range []struct {
		equation int
		skip     tree.Kind // not gone into
		want     string
	}{
		{0, tree.Call, "1: on not d, a: base, when: on c, whenot: on not d, 2: on not d, +: on not d, fby: on not d"},
		{0, tree.Fby, "fby: on not d"},
		{0, tree.Whenot, "1: on not d, whenot: on not d, 2: on not d, +: on not d, fby: on not d"},
		{2, tree.Call, "3: on d, x: on not d, merge: on c, a: base, whenot: on not c, -: on not c, merge: base"},
	} {
		var got []string
		q := s.Node.Equations[w.equation]
		enter := func(e *tree.Expr, _ Clock) bool { return e.Kind != w.skip }
		leave := func(e *tree.Expr, k Clock) {
			word := e.Kind.Word()
			switch e.Kind {
			case tree.Number:
				word = strconv.FormatInt(e.Value, 10)
			case tree.Variable:
				word = e.Name.Text
			}
			got = append(got, word+": "+tell(k))
		}
		c.Walk(s, q.Right, c.Of(s.Index(q.Left[0])), enter, leave)
		if g := strings.Join(got, ", "); g != w.want {
			t.Errorf("equation %d:\n%s, want\n%s", w.equation, g, w.want)
		}
	}
}

func TestCalledFindsEarlierNodesAlone(t *testing.T) {
	p, err := read.Program("node f(a: int) -> (y: int) { y = a; } node g(a: int) -> (y: int) { y = f(a); } node h(a: int) -> (y: int) { y = g(a); }")
	if err != nil {
		t.Fatal(err)
	}
	s := ScopeOf(p, 2)
	g, ok := s.Called(tree.Name{Text: "g"})
	if !ok || g.Node != p.Nodes[1] || len(g.Earlier) != 1 {
		t.Errorf("Called(g) = %v, %v", g, ok)
	}
	for _, name := range []string{"g", "h", "x"} {
		if _, ok := g.Called(tree.Name{Text: name}); ok {
			t.Errorf("g may call %s", name)
		}
	}
	if f, ok := g.Called(tree.Name{Text: "f"}); !ok || f.Node != p.Nodes[0] || len(f.Earlier) != 0 {
		t.Errorf("Called(f) = %v, %v", f, ok)
	}
}
