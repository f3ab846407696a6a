package check

import (
	"errors"
	"strings"
	"testing"

	"cadence/fault"
	"cadence/read"
)

func TestEachPassWrapsItsFault(t *testing.T) {
	for _, c := range []struct {
		src   string
		pass  string
		kind  error
		place int
	}{
		{"node n(a: int) -> (y: int) { y = b; }", "names", fault.Name, 33},
		{"node n(a: int) -> (y: int) { y = true; }", "types", fault.Type, 31},
		{"node n(a: bool) -> (y: int) { y = 1 when a; }", "clocks", fault.Clock, 36},
		{"node n(a: int) -> (y: int) { y = a; y = a; }", "definitions", fault.Define, 36},
		{"node n(a: int) -> (y: int) { y = y; }", "causes", fault.Cause, 5},
		{"node n(a: int) -> (y: int) { y = 0" + strings.Repeat("+(0 fby a)", 61) + "; }", "memory", fault.Limit, 0},
	} {
		p, err := read.Program(c.src)
		if err != nil {
			t.Fatal(err)
		}
		err = Program(p)
		var w fault.Pass
		var f fault.Fault
		if !errors.As(err, &w) || w.Name != c.pass {
			t.Errorf("%q: %v, want it from the pass %s", c.src, err, c.pass)
		}
		if !errors.As(err, &f) || f.Place != c.place || !errors.Is(err, c.kind) {
			t.Errorf("%q: %v, want %v at %d", c.src, err, c.kind, c.place)
		}
	}
}

func TestNothingWrong(t *testing.T) {
	p, err := read.Program("node n(a: int) -> (y: int) { y = a; }")
	if err == nil {
		err = Program(p)
	}
	if err != nil {
		t.Error(err)
	}
}

func TestClockTable(t *testing.T) {
	p, err := read.Program("node n(c: bool) -> (y: int) var d: bool on not c; x: int on d; u: bool on v; v: bool on not u; w: int on u; { y = 1; }")
	if err != nil {
		t.Fatal(err)
	}
	s := scope{node: p.Nodes[0]}
	c := clocksOf(s)
	want := map[string]clock{"c": {}, "y": {}, "d": {0, 2}, "x": {2, 1}, "u": {5, 1}, "v": {4, 2}, "w": {4, 1}}
	for name, k := range want {
		i, _ := s.node.Find(name)
		if c.of(i) != k {
			t.Errorf("the clock of %s is %v, want %v", name, c.of(i), k)
		}
		if back := name == "u" || name == "v"; c.comesBack(i) != back {
			t.Errorf("%s comes back: %v, want %v", name, !back, back)
		}
	}
}

func TestLinks(t *testing.T) {
	const head = "node f(a: int, b: int) -> (y: int, z: int) { y = a; z = b; } node n(a: int, c: bool) -> (y: int) "
	const vars = "var d: bool on c; x: int on not d; u: int; v: int; "
	p, err := read.Program(head + vars + "{ y = if c then a else 0 fby v; d = true; x = 1 fby (a when c whenot d); u = merge c (merge d 1 x) (a whenot c); (u, v) = f(y, 0 fby u); }")
	if err != nil {
		t.Fatal(err)
	}
	s := scope{earlier: p.Nodes[:1], node: p.Nodes[1]}
	got := linksOf(s)
	want := map[string]string{"y": "ca", "d": "c", "x": "d", "u": "cdxay", "v": "y", "a": "", "c": ""}
	for i, from := range s.node.Vars {
		for j, to := range s.node.Vars {
			if hangs := strings.Contains(want[from.Name.Text], to.Name.Text); got.has(i, j) != hangs {
				t.Errorf("%s hangs on %s: %v, want %v", from.Name.Text, to.Name.Text, !hangs, hangs)
			}
		}
	}
	got.follow(len(s.node.Vars))
	if i, _ := s.node.Find("v"); !got.has(i, 0) || !got.has(i, 1) || got.has(i, i) {
		t.Errorf("v hangs by others on a and c, and not on itself: %v", got)
	}
}
