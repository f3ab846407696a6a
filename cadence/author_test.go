package cadence

import (
	"math/rand"
	"slices"
	"strconv"
	"strings"
)

// author writes random programs in which nothing is wrong, but that they may be
// too long or too deep or remember too much.
type author struct {
	r     *rand.Rand
	nodes []*authored
}

// authored is a node that is being written. Its variables are in an order in
// which each hangs on earlier ones alone.
type authored struct {
	name    string
	vars    []*variable
	inputs  []*variable
	outputs []*variable
	locals  []*variable
}

type variable struct {
	name    string
	isBool  bool
	of      *variable // of its clock; nil for BASE
	sign    bool
	rank    int
	defined bool
}

// clock is that of an expr; BASE has no variable.
type clock struct {
	of   *variable
	sign bool
}

func (v *variable) clock() clock { return clock{v.of, v.sign} }

func writeProgram(r *rand.Rand) string {
	a := &author{r: r}
	s := ""
	for i := range 1 + r.Intn(3) {
		s += a.node(string(rune('f'+i))) + "\n"
	}
	return s
}

func (a *author) node(name string) string {
	n := &authored{name: name}
	for i := range 1 + a.r.Intn(3) {
		n.inputs = append(n.inputs, n.declare("i"+strconv.Itoa(i), a.r.Intn(2) == 0))
	}
	outputs := 1 + a.r.Intn(2)
	for range outputs + a.r.Intn(6) {
		if len(n.outputs) < outputs && a.r.Intn(6) == 0 {
			n.output(a)
			continue
		}
		v := n.declare("l"+strconv.Itoa(len(n.locals)), a.r.Intn(2) == 0)
		if on := a.one(n.vars[:v.rank], func(v *variable) bool { return v.isBool }); on != nil && a.r.Intn(3) > 0 {
			v.of, v.sign = on, a.r.Intn(2) == 0
		}
		n.locals = append(n.locals, v)
	}
	for len(n.outputs) < outputs {
		n.output(a)
	}
	var equations []string
	for _, v := range n.vars[len(n.inputs):] {
		if !v.defined {
			equations = append(equations, a.equation(n, v))
		}
	}
	a.r.Shuffle(len(equations), func(i, j int) { equations[i], equations[j] = equations[j], equations[i] })
	a.r.Shuffle(len(n.locals), func(i, j int) { n.locals[i], n.locals[j] = n.locals[j], n.locals[i] })
	a.nodes = append(a.nodes, n)
	return "node " + name + "(" + typedRow(n.inputs) + ") -> (" + typedRow(n.outputs) + ")" + declared(n.locals) + " { " + strings.Join(equations, " ") + " }"
}

func (n *authored) declare(name string, isBool bool) *variable {
	v := &variable{name: name, isBool: isBool, rank: len(n.vars)}
	n.vars = append(n.vars, v)
	return v
}

func (n *authored) output(a *author) {
	n.outputs = append(n.outputs, n.declare("o"+strconv.Itoa(len(n.outputs)), a.r.Intn(2) == 0))
}

func (v *variable) typed() string {
	if v.isBool {
		return v.name + ":bool"
	}
	return v.name + ":int"
}

func typedRow(l []*variable) string {
	var s []string
	for _, v := range l {
		s = append(s, v.typed())
	}
	return strings.Join(s, ",")
}

func declared(l []*variable) string {
	s := ""
	for _, v := range l {
		s += " " + v.typed()
		if v.of != nil {
			s += map[bool]string{true: " on ", false: " on not "}[v.sign] + v.of.name
		}
		s += ";"
	}
	if s == "" {
		return s
	}
	return " var" + s
}

func (a *author) one(l []*variable, fits func(v *variable) bool) *variable {
	var found []*variable
	for _, v := range l {
		if fits(v) {
			found = append(found, v)
		}
	}
	if len(found) == 0 {
		return nil
	}
	return found[a.r.Intn(len(found))]
}

func (a *author) equation(n *authored, v *variable) string {
	if a.r.Intn(3) == 0 {
		if s := a.several(n, v); s != "" {
			return s
		}
	}
	v.defined = true
	return v.name + "=" + a.expr(n, v.isBool, v.clock(), v.rank, 1+a.r.Intn(4)) + ";"
}

// several defines v and others by one call, if a node and variables for it are there.
func (a *author) several(n *authored, v *variable) string {
	for _, f := range a.nodes {
		if len(f.outputs) < 2 {
			continue
		}
		names, l := []string{}, []*variable{}
		for _, o := range f.outputs {
			w := a.one(n.vars[v.rank:], func(w *variable) bool {
				return !w.defined && w.isBool == o.isBool && w.clock() == v.clock() && !slices.Contains(l, w)
			})
			if w != nil {
				names, l = append(names, w.name), append(l, w)
			}
		}
		if len(l) == len(f.outputs) && slices.Contains(l, v) {
			for _, w := range l {
				w.defined = true
			}
			return "(" + strings.Join(names, ",") + ")=" + a.call(n, f, v.clock(), v.rank, 2) + ";"
		}
	}
	return ""
}

func (a *author) call(n *authored, f *authored, k clock, rank, size int) string {
	var args []string
	for _, in := range f.inputs {
		args = append(args, a.expr(n, in.isBool, k, rank, size-1))
	}
	return f.name + "(" + strings.Join(args, ",") + ")"
}

// expr writes an expr of a type on a clock; it may hang on what is below rank.
func (a *author) expr(n *authored, isBool bool, k clock, rank, size int) string {
	of := func(isBool bool) string { return a.expr(n, isBool, k, rank, size-1) }
	if size <= 0 {
		return a.leaf(n, isBool, k, rank)
	}
	switch a.r.Intn(9) {
	case 0, 1:
		return "(" + a.constant(isBool) + " fby " + a.expr(n, isBool, k, len(n.vars), size-1) + ")"
	case 2:
		return "(if " + of(true) + " then " + of(isBool) + " else " + of(isBool) + ")"
	case 3, 4:
		if c := a.one(n.vars[:rank], func(v *variable) bool { return v.isBool && v.clock() == k }); c != nil {
			return "(merge " + c.name + " (" + a.expr(n, isBool, clock{c, true}, rank, size-1) + ") (" + a.expr(n, isBool, clock{c, false}, rank, size-1) + "))"
		}
	case 5, 6:
		if k.of != nil && k.of.rank < rank {
			return "(" + a.expr(n, isBool, k.of.clock(), rank, size-1) + map[bool]string{true: " when ", false: " whenot "}[k.sign] + k.of.name + ")"
		}
	case 7:
		for _, i := range a.r.Perm(len(a.nodes)) {
			if f := a.nodes[i]; len(f.outputs) == 1 && f.outputs[0].isBool == isBool {
				return a.call(n, f, k, rank, size)
			}
		}
	}
	return a.operation(isBool, of)
}

func (a *author) operation(isBool bool, of func(isBool bool) string) string {
	some := func(words string) string {
		l := strings.Fields(words)
		return " " + l[a.r.Intn(len(l))] + " "
	}
	switch {
	case isBool && a.r.Intn(4) == 0:
		return "(not " + of(true) + ")"
	case isBool && a.r.Intn(2) == 0:
		return "(" + of(true) + some("and or xor = <>") + of(true) + ")"
	case isBool:
		return "(" + of(false) + some("< <= = <>") + of(false) + ")"
	case a.r.Intn(5) == 0:
		return "(-" + of(false) + ")"
	}
	return "(" + of(false) + some("+ - * / %") + of(false) + ")"
}

// leaf prefers late variables, so that what is in the early ones is seen in the outputs.
func (a *author) leaf(n *authored, isBool bool, k clock, rank int) string {
	from := a.r.Intn(rank + 1)
	fits := func(v *variable) bool { return v.isBool == isBool && v.clock() == k }
	v := a.one(n.vars[from:rank], fits)
	if v == nil {
		v = a.one(n.vars[:from], fits)
	}
	if v == nil || a.r.Intn(8) == 0 {
		return a.constant(isBool)
	}
	return v.name
}

func (a *author) constant(isBool bool) string {
	l := []string{"0", "1", "2", "-1", "7", "-9223372036854775807", "9223372036854775807"}
	if isBool {
		l = []string{"true", "false"}
	}
	return l[a.r.Intn(len(l))]
}
