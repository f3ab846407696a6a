package cadence

import (
	"testing"

	"cadence/read"
	"cadence/tree"
)

// stream is a node as the document says what it means: every value is asked
// for by its instant, from what the equations say, with nothing run in order
// and nothing kept from one instant to the next.
type stream struct {
	t      *testing.T
	nodes  []*tree.Node // those it may call, and itself at the end
	input  func(variable, instant int) int64
	values map[asked]int64
	called map[*tree.Expr]*stream
}

// asked is a variable or an expr at an instant.
type asked struct {
	variable int
	expr     *tree.Expr
	instant  int
}

// where is a clock: a variable, and 1 or 0 for what it must be; BASE has no variable.
type where struct {
	variable string
	value    int64
}

func newStream(t *testing.T, nodes []*tree.Node, input func(variable, instant int) int64) *stream {
	return &stream{t: t, nodes: nodes, input: input, values: map[asked]int64{}, called: map[*tree.Expr]*stream{}}
}

func (s *stream) node() *tree.Node { return s.nodes[len(s.nodes)-1] }

func (s *stream) clock(variable string) where {
	i, _ := s.node().Find(variable)
	switch on := s.node().Vars[i].On; on.Sign {
	case tree.OnTrue:
		return where{on.Of.Text, 1}
	case tree.OnFalse:
		return where{on.Of.Text, 0}
	}
	return where{}
}

func (s *stream) says(k where, instant int) bool {
	return k.variable == "" || s.says(s.clock(k.variable), instant) && s.variable(k.variable, instant) == k.value
}

func (s *stream) variable(name string, instant int) int64 {
	if !s.says(s.clock(name), instant) {
		s.t.Fatalf("%s is asked for at instant %d, where it has no value", name, instant)
	}
	i, _ := s.node().Find(name)
	if i < s.node().Inputs {
		return s.input(i, instant)
	}
	key := asked{variable: i, instant: instant}
	if v, ok := s.values[key]; ok {
		return v
	}
	for _, q := range s.node().Equations {
		for j, left := range q.Left {
			if left.Text == name {
				s.values[key] = s.output(q, j, instant)
			}
		}
	}
	return s.values[key]
}

func (s *stream) output(q tree.Equation, which, instant int) int64 {
	k := s.clock(q.Left[0].Text)
	if q.Right.Kind == tree.Call {
		return s.call(q.Right, which, k, instant)
	}
	return s.expr(q.Right, k, instant)
}

// expr has what e, on the clock k, has at an instant at which k says so.
func (s *stream) expr(e *tree.Expr, k where, instant int) int64 {
	key := asked{expr: e, instant: instant}
	if v, ok := s.values[key]; ok {
		return v
	}
	v := s.reckon(e, k, instant)
	s.values[key] = v
	return v
}

func (s *stream) reckon(e *tree.Expr, k where, instant int) int64 {
	of := func(i int) int64 { return s.expr(e.Args[i], k, instant) }
	switch e.Kind {
	case tree.Number:
		return e.Value
	case tree.True, tree.False:
		return is(e.Kind == tree.True)
	case tree.Variable:
		return s.variable(e.Name.Text, instant)
	case tree.Call:
		return s.call(e, 0, k, instant)
	case tree.If:
		if of(0) == 1 {
			return of(1)
		}
		return of(2)
	case tree.Merge:
		if s.variable(e.Name.Text, instant) == 1 {
			return s.expr(e.Args[0], where{e.Name.Text, 1}, instant)
		}
		return s.expr(e.Args[1], where{e.Name.Text, 0}, instant)
	case tree.When, tree.Whenot:
		return s.expr(e.Args[0], s.clock(e.Name.Text), instant)
	case tree.Fby:
		for before := instant - 1; before >= 0; before-- {
			if s.says(k, before) {
				return s.expr(e.Args[1], k, before)
			}
		}
		return of(0)
	case tree.Negate:
		return -of(0)
	case tree.Not:
		return is(of(0) == 0)
	}
	return operation(e.Kind.Word(), of(0), of(1))
}

// call has an output of a call: the node called has an instant at each one at
// which the call's clock says so.
func (s *stream) call(e *tree.Expr, output int, k where, instant int) int64 {
	callee := s.called[e]
	if callee == nil {
		last := 0
		for i, n := range s.nodes {
			if n.Name.Text == e.Name.Text {
				last = i
			}
		}
		callee = newStream(s.t, s.nodes[:last+1], func(variable, inner int) int64 {
			return s.expr(e.Args[variable], k, s.nth(k, inner))
		})
		s.called[e] = callee
	}
	inner := 0
	for s.nth(k, inner) < instant {
		inner++
	}
	return callee.variable(callee.node().Results()[output].Name.Text, inner)
}

// nth gives the instant, counted from 0 on, at which the clock says so for the
// n-th time.
func (s *stream) nth(k where, n int) int {
	for instant := 0; ; instant++ {
		if s.says(k, instant) {
			n--
		}
		if n < 0 {
			return instant
		}
	}
}

func is(holds bool) int64 {
	if holds {
		return 1
	}
	return 0
}

func operation(word string, a, b int64) int64 {
	switch word {
	case "and":
		return is(a == 1 && b == 1)
	case "or":
		return is(a == 1 || b == 1)
	case "xor", "<>":
		return is(a != b)
	case "=":
		return is(a == b)
	case "<":
		return is(a < b)
	case "<=":
		return is(a <= b)
	case "+":
		return a + b
	case "-":
		return a - b
	case "*":
		return a * b
	}
	if b == 0 {
		return 0
	}
	if word == "/" {
		return a / b
	}
	return a % b
}

// meaning gives the outputs of a program, instant by instant.
func meaning(t *testing.T, src string, in [][]int64) [][]int64 {
	t.Helper()
	p, err := read.Program(src)
	if err != nil {
		t.Fatalf("%q: %v", src, err)
	}
	s := newStream(t, p.Nodes, func(variable, instant int) int64 { return in[instant][variable] })
	out := make([][]int64, len(in))
	for i := range in {
		for _, v := range s.node().Results() {
			out[i] = append(out[i], s.variable(v.Name.Text, i))
		}
	}
	return out
}
