package cadence

import (
	"math/rand"
	"slices"
	"testing"

	"cadence/api"
	"cadence/read"
	"cadence/tree"
)

const (
	least = -1 << 63
	most  = 1<<63 - 1
)

type row = []int64

func load(t *testing.T, src string) *Machine {
	t.Helper()
	image, e, place := Compile(src)
	if e != api.OK || place != 0 {
		t.Fatalf("Compile(%q) = %d, %d", src, e, place)
	}
	m, e := Load(image)
	if e != api.OK || m == nil {
		t.Fatalf("Load of the image of %q: %d", src, e)
	}
	return m
}

// means holds a program against rows of inputs and the outputs behind them, and
// the rows against what the document says, as the oracle reads it.
func means(t *testing.T, src string, rows ...row) {
	t.Helper()
	m := load(t, src)
	var in, want [][]int64
	for _, r := range rows {
		if len(r) != m.Inputs()+m.Outputs() {
			t.Fatalf("%q has %d inputs and %d outputs", src, m.Inputs(), m.Outputs())
		}
		in, want = append(in, r[:m.Inputs()]), append(want, r[m.Inputs():])
	}
	if said := meaning(t, src, in); !slices.EqualFunc(said, want, slices.Equal) {
		t.Errorf("%q means %v, not %v", src, said, want)
	}
	runs(t, m, src, in, want)
}

func runs(t *testing.T, m *Machine, src string, in, want [][]int64) {
	t.Helper()
	for i := range in {
		if out, e := m.Step(in[i]); e != api.OK || !slices.Equal(out, want[i]) {
			t.Fatalf("%q: instant %d of %v: %v, %d, want %v", src, i, in, out, e, want[i])
		}
	}
}

func TestOperators(t *testing.T) {
	const ints = "node n(a: int, b: int) -> (y: int) { y = a "
	means(t, ints+"+ b; }", row{1, 2, 3}, row{most, 1, least}, row{least, -1, most}, row{least, least, 0})
	means(t, ints+"- b; }", row{1, 2, -1}, row{least, 1, most}, row{0, least, least}, row{most, -1, least})
	means(t, ints+"* b; }", row{-3, 7, -21}, row{least, -1, least}, row{most, 2, -2}, row{1 << 32, 1 << 32, 0})
	means(t, ints+"/ b; }", row{7, 2, 3}, row{-7, 2, -3}, row{7, -2, -3}, row{-7, -2, 3}, row{7, 0, 0}, row{0, 0, 0}, row{least, 0, 0}, row{least, -1, least}, row{least, 1, least}, row{most, -1, -most}, row{1, least, 0})
	means(t, ints+"% b; }", row{7, 2, 1}, row{-7, 2, -1}, row{7, -2, 1}, row{-7, -2, -1}, row{7, 0, 0}, row{least, 0, 0}, row{least, -1, 0}, row{least, most, -1}, row{5, least, 5})
	means(t, one+"{ y = -a; }", row{1, -1}, row{0, 0}, row{least, least}, row{most, -most})
	means(t, one+"{ y = - -a; }", row{5, 5}, row{least, least})
	means(t, one+"{ y = 9223372036854775807 + a; }", row{0, most}, row{1, least})
	const tests = "node n(a: int, b: int) -> (y: bool) { y = a "
	means(t, tests+"< b; }", row{1, 2, 1}, row{2, 2, 0}, row{3, 2, 0}, row{least, most, 1}, row{most, least, 0}, row{-1, 0, 1})
	means(t, tests+"<= b; }", row{1, 2, 1}, row{2, 2, 1}, row{3, 2, 0}, row{least, most, 1}, row{0, least, 0})
	means(t, tests+"= b; }", row{1, 2, 0}, row{2, 2, 1}, row{least, least, 1}, row{least, most, 0})
	means(t, tests+"<> b; }", row{1, 2, 1}, row{2, 2, 0}, row{0, 1 << 32, 1})
	for _, c := range []struct {
		word string
		want [4]int64
	}{{"and", [4]int64{0, 0, 0, 1}}, {"or", [4]int64{0, 1, 1, 1}}, {"xor", [4]int64{0, 1, 1, 0}}, {"=", [4]int64{1, 0, 0, 1}}, {"<>", [4]int64{0, 1, 1, 0}}} {
		means(t, "node n(a: bool, b: bool) -> (y: bool) { y = a "+c.word+" b; }", row{0, 0, c.want[0]}, row{0, 1, c.want[1]}, row{1, 0, c.want[2]}, row{1, 1, c.want[3]})
	}
	means(t, "node n(a: bool) -> (y: bool, z: bool, u: bool) { y = not a; z = true; u = false; }", row{0, 1, 1, 0}, row{1, 0, 1, 0})
	means(t, "node n(c: bool, a: int, b: int) -> (y: int) { y = if c then a else b; }", row{1, 5, 6, 5}, row{0, 5, 6, 6})
	means(t, "node n(a: int, b: int) -> (y: int) { y = a - b - 1 * 2 + -a % 3 / 2; }", row{10, 3, 5}, row{8, 3, 2})
}

func TestFby(t *testing.T) {
	means(t, "node sum(a: int) -> (s: int) { s = 0 fby s + a; }", row{1, 0}, row{2, 1}, row{3, 3}, row{4, 6})
	means(t, "node n(a: int) -> (s: int) { s = (0 fby s) + a; }", row{1, 1}, row{2, 3}, row{3, 6}, row{4, 10})
	means(t, one+"{ y = -9223372036854775807 fby a; }", row{1, -most}, row{2, 1})
	means(t, one+"{ y = -(3) fby (((4))) fby -5 fby a; }", row{1, -3}, row{2, 4}, row{3, -5}, row{4, 1}, row{5, 2})
	means(t, "node n(a: bool) -> (y: bool, z: bool) { y = true fby a; z = (false) fby not z; }", row{0, 1, 0}, row{1, 0, 1}, row{0, 1, 0})
	// Streams that hang on each other's past.
	means(t, "node n(a: int) -> (y: int, z: int) { y = 1 fby z; z = 0 fby y + a; }", row{0, 1, 0}, row{0, 0, 1}, row{5, 1, 0}, row{0, 0, 6})
	means(t, one+"{ y = (0 fby (1 fby y)) + (2 fby (3 fby a + y)); }", row{0, 2}, row{0, 4}, row{0, 4}, row{7, 8})
	means(t, one+"{ y = (if a < 0 then 1 fby a else 2 fby a) + (0 fby a); }", row{5, 2}, row{-1, 10}, row{-2, -2}, row{3, -4})
}

func TestClocks(t *testing.T) {
	const head = "node n(c: bool, a: int) -> (y: int) "
	means(t, head+"var x: int on c; { x = 10 fby (x + a when c); y = merge c x (0 whenot c); }", row{1, 5, 10}, row{0, 7, 0}, row{1, 2, 15}, row{1, 1, 17})
	// A fby ahead of when goes on at all instants of the variable behind it, and
	// one that when stands in does not.
	means(t, head+"{ y = merge c ((0 fby a) when c) 0; }", row{0, 1, 0}, row{0, 2, 0}, row{1, 3, 2}, row{0, 4, 0}, row{1, 5, 4})
	means(t, head+"{ y = merge c (0 fby a when c) 0; }", row{0, 1, 0}, row{0, 2, 0}, row{1, 3, 0}, row{0, 4, 0}, row{1, 5, 3})
	means(t, head+"{ y = merge c 0 ((9 fby a) whenot c); }", row{1, 1, 0}, row{0, 2, 1}, row{1, 3, 0}, row{0, 4, 3})
	means(t, head+"{ y = merge c 0 (9 fby a whenot c); }", row{1, 1, 0}, row{0, 2, 9}, row{1, 3, 0}, row{0, 4, 2})
	// Where the variable of a clock has no value there is none, whatever it had before.
	const slow = "node n(c: bool, d: bool, a: int) -> (y: int) var e: bool on c; x: int on not e; z: int on c; "
	means(t, slow+"{ e = d when c; x = 1 fby x + 1; z = merge e (-1) x; y = merge c z (-2); }", row{1, 0, 0, 1}, row{0, 0, 0, -2}, row{0, 1, 0, -2}, row{1, 1, 0, -1}, row{0, 0, 0, -2}, row{1, 0, 0, 2}, row{1, 0, 0, 3})
	means(t, slow+"{ e = false fby not e; x = (a when c) whenot e; z = merge e ((0 fby a when c) when e) x; y = merge c z (7 fby a whenot c); }", row{1, 0, 1, 1}, row{0, 0, 2, 7}, row{1, 0, 3, 1}, row{1, 0, 4, 4}, row{0, 0, 5, 2}, row{1, 1, 6, 4})
	// A clock that hangs on the past of what is on it.
	means(t, "node n(a: int) -> (y: int) var d: bool; x: int on d; { d = (0 fby y) < 3; x = 1 + (0 fby x); y = merge d x 0; }", row{0, 1}, row{0, 2}, row{0, 3}, row{0, 0}, row{0, 4}, row{0, 0}, row{0, 5})
	// What a fby waits for may be merged by what is known only later in the instant.
	means(t, inc+"node n(a: int) -> (y: int) var d: bool; { y = 0 fby (merge d (inc(y when d)) (y whenot d)); d = y < a; }", row{2, 0}, row{2, 1}, row{2, 2}, row{9, 2}, row{9, 3})
	// No value of a merge's other side is seen, and a division by 0 there harms nothing.
	means(t, head+"{ y = merge c (8 / a when c) ((a % (a - a)) whenot c); }", row{1, 0, 0}, row{0, 3, 0}, row{1, 2, 4})
	means(t, "node n(c: bool) -> (y: bool) { y = merge c (false fby true) (true fby false); }", row{1, 0}, row{0, 1}, row{1, 1}, row{0, 0})
}

func TestCalls(t *testing.T) {
	const count = "node f(a: int) -> (y: int) { y = a + (0 fby y); } "
	const head = "node n(c: bool, a: int) -> (y: int) "
	means(t, count+one+"{ y = f(a) - f(f(2)); }", row{1, -1}, row{1, -4}, row{1, -9})
	means(t, count+head+"{ y = merge c (f(1)) (f(10)); }", row{1, 0, 1}, row{0, 0, 10}, row{1, 0, 2}, row{1, 0, 3}, row{0, 0, 20})
	means(t, count+head+"{ y = merge c (f(1) when c) (f(10) whenot c); }", row{1, 0, 1}, row{0, 0, 20}, row{1, 0, 3}, row{1, 0, 4}, row{0, 0, 50})
	means(t, count+head+"{ y = if c then f(1) else f(10); }", row{1, 0, 1}, row{0, 0, 20}, row{1, 0, 3})
	means(t, count+head+"{ y = 5 fby f(y); }", row{1, 0, 5}, row{1, 0, 5}, row{1, 0, 10}, row{1, 0, 20})
	means(t, count+head+"{ y = f(5 fby f(a)); }", row{1, 1, 5}, row{1, 2, 6}, row{1, 3, 9}, row{1, 4, 15})
	// A call within a call that stands still: neither has an instant.
	const twice = "node g(a: int, d: bool) -> (y: int) { y = merge d (f(a when d)) (0 - f(1)); } "
	means(t, count+twice+"node n(c: bool, d: bool) -> (y: int) { y = merge c (g(2, d when c)) 0; }", row{1, 1, 2}, row{0, 1, 0}, row{0, 0, 0}, row{1, 0, -1}, row{1, 1, 4}, row{0, 0, 0}, row{1, 0, -2})
	// Several outputs, in their order, one of them first used where it stands.
	const cut = "node cut(a: int, b: int) -> (q: int, r: int, less: bool) { less = a < b; r = a % b; q = a / b; } "
	means(t, cut+"node n(a: int) -> (l: bool, y: int) var q: int; r: int; { y = q * 10 + r; (q, r, l) = cut(a, 3 fby a); }", row{7, 0, 21}, row{9, 0, 12}, row{5, 1, 5})
	means(t, cut+"node n(c: bool, a: int) -> (y: int) var q: int on c; r: int on c; l: bool on c; { (q, r, l) = cut(a when c, 0 fby q + 1); y = merge c (if l then 1 - r else q) 99; }", row{1, 4, 0}, row{0, 4, 99}, row{1, 4, 4}, row{0, 1, 99}, row{1, 2, 1 - 2})
	// A variable of the node called has the name of one of the caller's.
	means(t, "node f(y: int) -> (a: int) var n: int; { n = y * 2; a = n + 1; } node n(a: int) -> (y: int) var n: int; { n = f(a); y = f(n) + n; }", row{1, 10}, row{0, 4})
	// A node that is not called, and remembers more than a machine may, does no harm.
	means(t, "node f(a: int) -> (y: int) { y = a"+times(61, "+(0 fby a)")+"; } "+one+"{ y = a; }", row{4, 4})
}

func TestOrderOfEquations(t *testing.T) {
	equations := []string{"y = p + q; ", "p = merge c x 2; ", "x = q when c; ", "c = q < 10; ", "q = a + r; ", "r = 5 fby q; "}
	for range len(equations) {
		for i := range len(equations) - 1 {
			equations[i], equations[i+1] = equations[i+1], equations[i]
			src := one + "var x: int on c; p: int; q: int; r: int; c: bool; { "
			for _, q := range equations {
				src += q
			}
			means(t, src+"}", row{1, 12}, row{2, 16}, row{8, 18})
		}
	}
}

func boolsOf(t *testing.T, src string) []bool {
	t.Helper()
	p, err := read.Program(src)
	if err != nil {
		t.Fatalf("%q: %v", src, err)
	}
	main := p.Nodes[len(p.Nodes)-1]
	var l []bool
	for _, v := range main.Vars[:main.Inputs] {
		l = append(l, v.Type == tree.Bool)
	}
	return l
}

func anyInputs(r *rand.Rand, bools []bool, instants int) [][]int64 {
	in := make([][]int64, instants)
	for i := range in {
		for _, isBool := range bools {
			v := int64(r.Intn(2))
			if !isBool {
				v = []int64{0, 1, 2, -1, 3, 100, least, most, r.Int63() - r.Int63()}[r.Intn(9)]
			}
			in[i] = append(in[i], v)
		}
	}
	return in
}

func TestAnyProgramMeansWhatItSays(t *testing.T) {
	r := rand.New(rand.NewSource(11))
	ran, unlike := 0, 0
	for range 6000 {
		src := writeProgram(r)
		if e, place := Check(src); e != api.OK {
			if e != api.ErrLong && e != api.ErrDeep && e != api.ErrLimit {
				t.Fatalf("Check(%q) = %d, %d", src, e, place)
			}
			continue
		}
		ran++
		in := anyInputs(r, boolsOf(t, src), 12)
		want := meaning(t, src, in)
		if slices.ContainsFunc(want, func(out []int64) bool { return !slices.Equal(out, want[0]) }) {
			unlike++
		}
		m := load(t, src)
		runs(t, m, src, in, want)
		m.Reset()
		runs(t, m, src, in, want)
	}
	if ran < 2000 || unlike < 1000 {
		t.Errorf("only %d programs were run, and %d of them changed their outputs", ran, unlike)
	}
}
