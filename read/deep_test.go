package read

import (
	"errors"
	"math/rand"
	"strings"
	"testing"

	"cadence/api"
	"cadence/fault"
)

// deepWriter writes random exprs and knows which token is the first with
// which too many things are open.
type deepWriter struct {
	r    *rand.Rand
	b    strings.Builder
	open int
	deep int // its place, or -1
}

func (w *deepWriter) put(text string) { w.b.WriteString(text + " ") }

func (w *deepWriter) inside(text string, write func()) {
	w.open++
	if w.open > api.MaxDepth && w.deep < 0 {
		w.deep = w.b.Len()
	}
	w.put(text)
	write()
	w.open--
}

func (w *deepWriter) expr(size int) {
	if size <= 0 {
		w.put("a")
		return
	}
	switch w.r.Intn(4) {
	case 0:
		w.inside("if", func() {
			w.expr(w.r.Intn(3))
			w.put("then")
			w.expr(w.r.Intn(3))
			w.put("else")
			w.expr(size - 1)
		})
	case 1:
		w.part(w.r.Intn(3))
		w.inside("fby", func() { w.expr(size - 1) })
	default:
		w.part(w.r.Intn(4))
		w.put([]string{"+", "or", "and", "*"}[w.r.Intn(4)])
		w.part(size - 1)
	}
}

// part writes nothing that reaches further than it was meant to.
func (w *deepWriter) part(size int) {
	if size <= 0 {
		w.put("a")
		return
	}
	switch w.r.Intn(4) {
	case 0:
		w.inside([]string{"-", "not"}[w.r.Intn(2)], func() { w.part(size - 1) })
	case 1:
		w.put("f")
		fallthrough
	case 2:
		w.inside("(", func() { w.expr(size - 1) })
		w.put(")")
	case 3:
		w.inside("merge", func() {
			w.put("c")
			w.side(w.r.Intn(3))
			w.side(size - 1)
		})
		w.put("when c")
	}
}

func (w *deepWriter) side(size int) {
	w.inside("(", func() { w.expr(size) })
	w.put(")")
}

func TestDeep(t *testing.T) {
	const head = "node n ( a : int ) -> ( y : int ) { y = "
	deep, flat := 0, 0
	for seed := range 3000 {
		w := deepWriter{r: rand.New(rand.NewSource(int64(seed))), deep: -1}
		w.put(strings.TrimSpace(head))
		w.expr(8 + seed%14)
		w.put("; }")
		_, err := Program(w.b.String())
		if w.b.Len() > api.MaxSource {
			continue
		}
		if w.deep < 0 {
			flat++
			if err != nil {
				t.Errorf("Program(%q): %v, want none", w.b.String(), err)
			}
			continue
		}
		deep++
		var f fault.Fault
		if !errors.As(err, &f) || !errors.Is(err, fault.Deep) || f.Place != w.deep {
			t.Errorf("Program(%q): %v, want deep at %d", w.b.String(), err, w.deep)
		}
	}
	if deep < 100 || flat < 100 {
		t.Errorf("only %d deep and %d flat programs were tried", deep, flat)
	}
}
