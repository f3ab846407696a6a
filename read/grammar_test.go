package read

import (
	"errors"
	"math/rand"
	"strings"
	"testing"

	"cadence/fault"
)

// grammar is the document's, rule by rule. A word that a "(" follows is a
// caller, any other one is plain: an atom that is a name is plain, so that
// exprs reach as far as they can.
const grammar = `
program = node | program node
node = "node" word "(" params ")" "->" "(" params ")" locals "{" equations "}"
params = param | params "," param
param = word ":" type
type = "int" | "bool"
locals = | "var" declared
declared = local | declared local
local = param on ";"
on = | "on" word | "on" "not" word
equations = equation | equations equation
equation = word "=" expr ";" | "(" word "," names ")" "=" word "(" exprs ")" ";"
names = word | names "," word
exprs = expr | exprs "," expr
expr = either | either "fby" expr
either = both | either "or" both | either "xor" both
both = test | both "and" test
test = sum | sum "=" sum | sum "<>" sum | sum "<" sum | sum "<=" sum
sum = product | sum "+" product | sum "-" product
product = unary | product "*" unary | product "/" unary | product "%" unary
unary = sampled | "-" unary | "not" unary
sampled = atom | sampled "when" word | sampled "whenot" word
atom = plain | caller "(" exprs ")" | unnamed
unnamed = number | "true" | "false" | "(" expr ")" | "if" expr "then" expr "else" expr | "merge" word side side
side = word | unnamed
word = plain | caller
`

type rules map[string][][]string

func parseGrammar() rules {
	g := rules{}
	for _, l := range strings.Split(strings.TrimSpace(grammar), "\n") {
		left, right, _ := strings.Cut(l, " = ")
		for _, alternative := range strings.Split(right, "|") {
			g[left] = append(g[left], strings.Fields(alternative))
		}
	}
	return g
}

type item struct {
	left        string
	alternative int
	dot         int
	from        int
}

// firstWrong tells how many of the terminals are the beginning of a program,
// and whether all of them are one.
func (g rules) firstWrong(terminals []string) (int, bool) {
	var sets []map[item]bool
	set := map[item]bool{}
	for i := range g["program"] {
		set[item{"program", i, 0, 0}] = true
	}
	for at := 0; ; at++ {
		sets = append(sets, set)
		g.complete(sets)
		if at == len(terminals) {
			break
		}
		set = map[item]bool{}
		for x := range sets[at] {
			row := g[x.left][x.alternative]
			if x.dot < len(row) && row[x.dot] == terminals[at] {
				x.dot++
				set[x] = true
			}
		}
		if len(set) == 0 {
			return at, false
		}
	}
	for i, row := range g["program"] {
		if sets[len(terminals)][item{"program", i, len(row), 0}] {
			return len(terminals), true
		}
	}
	return len(terminals), false
}

func (g rules) complete(sets []map[item]bool) {
	at := len(sets) - 1
	var work []item
	add := func(x item) {
		if !sets[at][x] {
			sets[at][x] = true
			work = append(work, x)
		}
	}
	for x := range sets[at] {
		work = append(work, x)
	}
	for len(work) > 0 {
		x := work[len(work)-1]
		work = work[:len(work)-1]
		row := g[x.left][x.alternative]
		if x.dot < len(row) {
			for i, next := range g[row[x.dot]] {
				add(item{row[x.dot], i, 0, at})
				if len(next) == 0 {
					add(item{x.left, x.alternative, x.dot + 1, x.from})
				}
			}
			continue
		}
		var waiting []item
		for y := range sets[x.from] {
			if r := g[y.left][y.alternative]; y.dot < len(r) && r[y.dot] == x.left {
				waiting = append(waiting, y)
			}
		}
		for _, y := range waiting {
			y.dot++
			add(y)
		}
	}
}

// derive makes tokens of a program, the shorter the smaller size is.
func (g rules) derive(r *rand.Rand, symbol string, size int) []string {
	switch {
	case symbol == "number":
		return []string{[]string{"0", "7", "012"}[r.Intn(3)]}
	case symbol == "plain" || symbol == "caller":
		return []string{[]string{"a", "b", "f"}[r.Intn(3)]}
	case strings.HasPrefix(symbol, `"`):
		return []string{strings.Trim(symbol, `"`)}
	}
	row := g[symbol][0]
	if size > 0 && r.Intn(5) < 3 {
		row = g[symbol][r.Intn(len(g[symbol]))]
	}
	var l []string
	for _, s := range row {
		l = append(l, g.derive(r, s, size-1)...)
	}
	return l
}

func change(r *rand.Rand, l []string) []string {
	all := strings.Fields("node var int bool on not and or xor if then else merge when whenot fby true false ( ) { } : ; , -> = <> < <= + - * / % a b f 0 7 # > abcdefghijklm")
	at := r.Intn(len(l))
	some := all[r.Intn(len(all))]
	switch r.Intn(5) {
	case 0:
		return append(l[:at:at], l[at+1:]...)
	case 1:
		return append(append(l[:at:at], some), l[at:]...)
	case 2:
		return append(append(l[:at:at], some), l[at+1:]...)
	case 3:
		return append(append(l[:at:at], l[r.Intn(len(l))]), l[at+1:]...)
	}
	return l[:at:at]
}

func terminals(l []string) []string {
	out := make([]string, len(l))
	for i, text := range l {
		switch t := scan(text, 0); {
		case t.kind == number:
			out[i] = "number"
		case t.kind == name && i+1 < len(l) && l[i+1] == "(":
			out[i] = "caller"
		case t.kind == name:
			out[i] = "plain"
		default:
			out[i] = `"` + text + `"`
		}
	}
	return out
}

// lay writes tokens down with spaces between them, and tells their places and that of the end.
func lay(r *rand.Rand, l []string) (string, []int) {
	var b strings.Builder
	var places []int
	for _, text := range l {
		b.WriteString([]string{" ", "\n", "  "}[r.Intn(3)])
		places = append(places, b.Len())
		b.WriteString(text)
	}
	return b.String(), append(places, b.Len())
}

func TestReadsWhatTheGrammarSays(t *testing.T) {
	g := parseGrammar()
	r := rand.New(rand.NewSource(5))
	right, wrong := 0, 0
	for range 3000 {
		l := g.derive(r, "program", 10+r.Intn(30))
		if len(l) > 120 {
			continue
		}
		for range r.Intn(3) {
			if len(l) > 0 {
				l = change(r, l)
			}
		}
		src, places := lay(r, l)
		_, err := Program(src)
		if errors.Is(err, fault.Deep) || strings.Count(src, ":") > 16 {
			continue
		}
		at, ok := g.firstWrong(terminals(l))
		if ok {
			right++
			if err != nil {
				t.Errorf("Program(%q): %v, want none", src, err)
			}
			continue
		}
		wrong++
		var f fault.Fault
		if !errors.As(err, &f) || !errors.Is(err, fault.Syntax) || f.Place != places[at] {
			t.Errorf("Program(%q): %v, want syntax at %d", src, err, places[at])
		}
	}
	if right < 300 || wrong < 500 {
		t.Errorf("only %d right and %d wrong programs were tried", right, wrong)
	}
}
