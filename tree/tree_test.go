package tree

import (
	"slices"
	"testing"
)

func leaf(name string) *Expr {
	return &Expr{Kind: Variable, Name: Name{Text: name}}
}

func TestWalkGoesOutsideInAndStopsWhereTold(t *testing.T) {
	sum := &Expr{Kind: Add, Args: []*Expr{leaf("a"), leaf("b")}}
	memory := &Expr{Kind: Fby, Args: []*Expr{{Kind: Number}, leaf("c")}}
	n := &Node{Equations: []Equation{{Right: &Expr{Kind: Subtract, Args: []*Expr{sum, memory}}}, {Right: leaf("d")}}}
	var kinds []Kind
	var names []string
	n.Walk(func(_ Equation, e *Expr) bool {
		kinds = append(kinds, e.Kind)
		names = append(names, e.Name.Text)
		return e.Kind != Fby
	})
	if want := []Kind{Subtract, Add, Variable, Variable, Fby, Variable}; !slices.Equal(kinds, want) {
		t.Errorf("kinds %v, want %v", kinds, want)
	}
	if want := []string{"", "", "a", "b", "", "d"}; !slices.Equal(names, want) {
		t.Errorf("names %v, want %v", names, want)
	}
}

func TestFindGivesTheFirst(t *testing.T) {
	n := &Node{Vars: []Var{{Name: Name{Text: "a"}}, {Name: Name{Text: "b"}}, {Name: Name{Text: "b"}}}}
	if i, ok := n.Find("b"); i != 1 || !ok {
		t.Errorf("Find(b) = %d, %v", i, ok)
	}
	if i, ok := n.Find("c"); i != 0 || ok {
		t.Errorf("Find(c) = %d, %v", i, ok)
	}
}
