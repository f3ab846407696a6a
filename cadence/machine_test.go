package cadence

import (
	"math/rand"
	"slices"
	"strings"
	"sync"
	"testing"

	"cadence/api"
)

// largest are programs at the bounds: of calls, of cells, of depth, of variables.
func largest() []string {
	locals, equations, last := "", "", "c"
	for i := range 14 {
		v := "v" + string(rune('a'+i))
		locals += v + ":bool on " + last + ";"
		equations += v + "=true fby not " + v + ";"
		last = v
	}
	calls := strings.TrimSuffix(times(60, "f(a)+"), "+")
	l := []string{
		"node f(a:int)->(y:int){y=" + times(400, "1+") + "a;}" + "node n(a:int)->(y:int){y=" + calls + ";}",
		"node n(a:int)->(y:int){y=a" + times(60, "+(0 fby a)") + ";}",
		"node n(c:bool)->(y:bool)var " + locals + "{y=c;" + equations + "}",
		"node f(a:int)->(y:int){y=0 fby a;}node n(a:int)->(y:int){y=" + times(16, "f(") + "a" + times(16, ")") + ";}",
		"node n(a:int)->(y:int){y=" + times(14, "(a+a*") + "(0 fby a)" + times(14, ")") + ";}",
	}
	nest := "node f(a:int)->(y:int){y=a+(0 fby y);}"
	for i := range 5 {
		nest += "node " + string(rune('g'+i)) + "(a:int)->(y:int)var x:int;z:int;{x=" + string(rune('f'+i)) + "(a);z=x*2;y=z-x;}"
	}
	return append(l, nest)
}

func TestLargestPrograms(t *testing.T) {
	r := rand.New(rand.NewSource(3))
	for _, src := range largest() {
		in := anyInputs(r, boolsOf(t, src), 10)
		m := load(t, src)
		runs(t, m, src, in, meaning(t, src, in))
	}
}

func TestCompileSaysWhatCheckSays(t *testing.T) {
	r := rand.New(rand.NewSource(10))
	right := 0
	for range 4000 {
		src := anyText(r)
		e, place := Check(src)
		image, f, at := Compile(src)
		if f != e || at != place || (len(image) == 0) != (e != api.OK) {
			t.Errorf("Compile(%q): %d bytes, %d, %d; Check says %d, %d", src, len(image), f, at, e, place)
		}
		if e == api.OK {
			right++
		}
	}
	if right < 100 {
		t.Errorf("only %d texts were programs", right)
	}
	for _, src := range []string{times(1201, " "), one + "{ y = a" + times(61, "+(0 fby a)") + "; }", one + "{ y = " + times(17, "(")} {
		e, place := Check(src)
		if image, f, at := Compile(src); len(image) != 0 || f != e || at != place || e == api.OK {
			t.Errorf("Compile(%.40q): %d bytes, %d, %d, want %d, %d", src, len(image), f, at, e, place)
		}
	}
}

func sameImage(t *testing.T, src string, others ...string) {
	t.Helper()
	want, e, _ := Compile(src)
	for _, other := range others {
		got, f, _ := Compile(other)
		if e != api.OK || f != api.OK || !slices.Equal(got, want) {
			t.Errorf("the images of %.300q and %.300q are not the same (%d, %d)", src, other, e, f)
		}
	}
}

func TestImageHangsOnTheCanonicalText(t *testing.T) {
	sameImage(t, one+"{ y = 0 fby y + a; }", "node n(a:int)->(y:int){y=(00 fby(y+(a)));}", "\n\n"+one+"\n{\ny = (((0))) fby (y + a); } ")
	sameImage(t, one+"{ y = -1 fby - a * 2 - 3; }", one+"{ y = -(001) fby (((-a) * 2) - 3); }")
	sameImage(t, timed+"{ y = merge c 1 (a whenot c); }", timed+"{ y = merge c (1) ((a) whenot c); }", timed+"{ y = (merge c 1 ((a whenot c))); }")
	sameImage(t, inc+one+"{ y = inc(a + 1); }", inc+one+"{ y = (inc((a + 1))); }")
	r := rand.New(rand.NewSource(4))
	for range 500 {
		src := writeProgram(r)
		if e, _ := Check(src); e != api.OK {
			continue
		}
		sameImage(t, src, src, strings.ReplaceAll(src, " ", "\n"))
		if text, _, _ := Print(src); len(text) <= api.MaxSource {
			sameImage(t, src, text)
		}
	}
}

func TestInputsAndOutputs(t *testing.T) {
	for _, c := range []struct {
		src     string
		in, out int
	}{
		{one + "{ y = a; }", 1, 1},
		{"node n(" + params(15) + ") -> (y: int) { y = v; }", 15, 1},
		{"node n(a: int) -> (" + params(15) + ") { v = a; " + defineAll(14) + "}", 1, 15},
		{pair + "node n(a: int, b: bool, c: int) -> (y: int, z: bool) var x: int; { (y, z) = pair(a, b); x = c; }", 3, 2},
		{"node n(a: int, b: bool, c: int) -> (y: int, z: bool) { y = a; z = b; } " + strings.ReplaceAll(one, "n(", "m(") + "{ y = a; }", 1, 1},
	} {
		m := load(t, c.src)
		if m.Inputs() != c.in || m.Outputs() != c.out {
			t.Errorf("%q: %d inputs, %d outputs, want %d, %d", c.src, m.Inputs(), m.Outputs(), c.in, c.out)
		}
		if out, e := m.Step(make([]int64, c.in)); e != api.OK || len(out) != c.out {
			t.Errorf("%q: Step = %v, %d", c.src, out, e)
		}
	}
}

func defineAll(n int) string {
	s := ""
	for i := range n {
		s += "v" + string(rune('b'+i)) + " = a; "
	}
	return s
}

const counter = "node n(a: int, c: bool, b: bool) -> (y: int, z: bool) { y = a + (0 fby y); z = c xor b; }"

func TestStepRefusesWrongInputs(t *testing.T) {
	m := load(t, counter)
	sum := int64(0)
	for _, wrong := range [][]int64{nil, {}, {1}, {1, 1}, {1, 1, 1, 1}, make([]int64, 5000), {1, 2, 0}, {1, 0, 2}, {1, -1, 0}, {1, 1, least}, {1, most, 1}, {1, 1 << 32, 0}, {1, 0, 256}, {2, 2, 2}} {
		if out, e := m.Step(wrong); len(out) != 0 || e != api.ErrInput {
			t.Errorf("Step(%v) = %v, %d", wrong, out, e)
		}
		// Nothing has changed.
		sum += 5
		if out, e := m.Step([]int64{5, 1, 0}); e != api.OK || !slices.Equal(out, row{sum, 1}) {
			t.Errorf("behind Step(%v): %v, %d, want %d, 1", wrong, out, e, sum)
		}
	}
	// An int may be anything.
	m.Reset()
	for _, v := range []int64{least, most, 2, -1} {
		if _, e := m.Step([]int64{v, 0, 1}); e != api.OK {
			t.Errorf("Step(%d, 0, 1): %d", v, e)
		}
	}
}

func TestReset(t *testing.T) {
	m := load(t, "node n(c: bool, a: int) -> (y: int) var x: int on c; { x = 10 fby (x + a when c); y = merge c x (3 fby a whenot c); }")
	instants := [][]int64{{1, 5}, {0, 7}, {1, 2}, {0, 1}, {1, 1}}
	want := []int64{10, 3, 15, 7, 17}
	for n := range len(instants) + 1 {
		for i := range n {
			if out, e := m.Step(instants[i]); e != api.OK || !slices.Equal(out, want[i:i+1]) {
				t.Errorf("instant %d of %d: %v, %d, want %d", i, n, out, e, want[i])
			}
		}
		m.Reset()
		if n%2 == 0 {
			m.Reset()
		}
		if n%3 == 0 {
			m.Step(nil)
		}
	}
}

// full fills a slice and its spare room.
func full[T any](l []T, v T) {
	l = l[:cap(l)]
	for i := range l {
		l[i] = v
	}
}

func TestWhatComesOutIsNew(t *testing.T) {
	src := "node n(a: int) -> (y: int, z: int) { y = 0 fby y + a; z = a; }"
	image, _, _ := Compile(src)
	other, _, _ := Compile(src)
	keep := slices.Clone(other)
	full(image, 0xff)
	if !slices.Equal(other, keep) {
		t.Errorf("an image is changed by writing into another one")
	}
	m, _ := Load(other)
	full(other, 0xff)
	first, _ := m.Step([]int64{3, 0}[:1])
	second, _ := m.Step([]int64{4})
	if !slices.Equal(first, row{0, 3}) || !slices.Equal(second, row{3, 4}) {
		t.Errorf("%v, %v behind an image that was written into", first, second)
	}
	full(first, -1)
	full(second, -1)
	m.Reset()
	m.Step([]int64{1})
	third, _ := m.Step([]int64{2})
	if !slices.Equal(third, row{1, 2}) {
		t.Errorf("%v behind outputs that were written into", third)
	}
	m.Step([]int64{9})
	m.Reset()
	if !slices.Equal(third, row{1, 2}) || !slices.Equal(first, row{-1, -1}) {
		t.Errorf("%v, %v: outputs that were out are changed", third, first)
	}
}

func TestWhatIsHandedInStaysAsItIs(t *testing.T) {
	r := rand.New(rand.NewSource(6))
	for _, src := range seeds {
		image, _, _ := Compile(src)
		room := append(slices.Clone(image), 1, 2, 3, 4, 5, 6, 7, 8)
		keep := slices.Clone(room)
		m, e := Load(room[:len(image)])
		if e != api.OK {
			t.Fatalf("Load of the image of %q: %d", src, e)
		}
		for _, in := range anyInputs(r, boolsOf(t, src), 5) {
			wide := append(slices.Clone(in), 7, 7, 7)
			before := slices.Clone(wide)
			m.Step(wide[:len(in)])
			if !slices.Equal(wide, before) {
				t.Errorf("%q: Step writes into its inputs: %v, they were %v", src, wide, before)
			}
		}
		if !slices.Equal(room, keep) {
			t.Errorf("Load writes into the image of %q", src)
		}
	}
	// A step keeps nothing of its inputs.
	m := load(t, one+"{ y = 0 fby a; }")
	in := []int64{5}
	m.Step(in)
	in[0] = 99
	if out, _ := m.Step(in); !slices.Equal(out, row{5}) {
		t.Errorf("%v behind an input that was written into, want 5", out)
	}
}

func TestMachinesKnowNothingOfOneAnother(t *testing.T) {
	image, _, _ := Compile(counter)
	a, _ := Load(image)
	b, _ := Load(image)
	for i := range int64(5) {
		if out, _ := a.Step([]int64{1, 0, 0}); out[0] != i+1 {
			t.Errorf("the first machine: %v at instant %d", out, i)
		}
		if i == 3 {
			a.Reset()
			a.Step([]int64{4, 0, 0})
		}
		if out, _ := b.Step([]int64{10, 0, 0}); out[0] != 10*(i+1) {
			t.Errorf("the second machine: %v at instant %d", out, i)
		}
	}
}

func TestMachinesAtOnce(t *testing.T) {
	// Run with -race this shows whether machines share anything.
	r := rand.New(rand.NewSource(8))
	var group sync.WaitGroup
	for _, src := range seeds {
		in := anyInputs(r, boolsOf(t, src), 20)
		want := meaning(t, src, in)
		image, _, _ := Compile(src)
		for range 3 {
			group.Add(1)
			go func() {
				defer group.Done()
				m, _ := Load(image)
				for i := range in {
					if out, _ := m.Step(in[i]); !slices.Equal(out, want[i]) {
						t.Errorf("%q: instant %d: %v, want %v", src, i, out, want[i])
					}
				}
			}()
		}
	}
	group.Wait()
}

func TestMemoryDoesNotGrow(t *testing.T) {
	for _, src := range append(largest(), seeds...) {
		m := load(t, src)
		in := make([]int64, m.Inputs())
		if n := testing.AllocsPerRun(20, func() { m.Step(in) }); n > 1 {
			t.Errorf("%.60q: %v allocations in a step, want that of the outputs alone", src, n)
		}
	}
}
