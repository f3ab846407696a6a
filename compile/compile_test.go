package compile

import (
	"strings"
	"testing"

	"cadence/api"
	"cadence/check"
	"cadence/code"
	"cadence/facts"
	"cadence/read"
	"cadence/tree"
)

func program(t *testing.T, src string) *tree.Program {
	t.Helper()
	p, err := read.Program(src)
	if err == nil {
		err = check.Program(p)
	}
	if err != nil {
		t.Fatalf("%q: %v", src, err)
	}
	return p
}

func TestInOrder(t *testing.T) {
	const pair = "node f(a: int) -> (y: int, z: int) { y = a; z = a; } "
	const head = "node n(a: int) -> (y: int) var c: bool; x: int on c; p: int; q: int; r: int; "
	p := program(t, pair+head+"{ y = merge c x (r whenot c); x = 1; (r, q) = f(0 fby y); c = p < q; p = r + 1; }")
	var got []string
	for _, q := range inOrder(facts.ScopeOf(p, 1)) {
		got = append(got, q.Left[0].Text)
	}
	// c hangs on p and q, which hang on r; x hangs on its clock.
	if s := strings.Join(got, " "); s != "r p c x y" {
		t.Errorf("the order is %s", s)
	}
}

func TestCellsAreThoseOfWhatIsCalled(t *testing.T) {
	const f = "node f(a: int) -> (y: int) { y = (1 fby a) + (2 fby a); } "
	c := Program(program(t, f+"node g(a: int) -> (y: int) { y = 9 fby a; } node n(a: int) -> (y: int) { y = f(a) + (-3 fby f(y)); }"))
	if len(c.Cells) != 5 {
		t.Errorf("the cells are %v", c.Cells)
	}
	sum := int64(0)
	for _, v := range c.Cells {
		sum += v
	}
	if sum != 1+2+1+2-3 {
		t.Errorf("the cells begin with %v", c.Cells)
	}
}

func TestInputsAreInTheirOrder(t *testing.T) {
	c := Program(program(t, "node n(a: int, b: bool, c: bool, d: int) -> (y: int, z: int) { y = a; z = d; }"))
	if len(c.Bools) != 4 || c.Bools[0] || !c.Bools[1] || !c.Bools[2] || c.Bools[3] || c.Outputs != 2 {
		t.Errorf("inputs %v, outputs %d", c.Bools, c.Outputs)
	}
}

func TestCodeFitsIntoAnImage(t *testing.T) {
	calls := strings.TrimSuffix(strings.Repeat("f(1)+", 60), "+")
	src := "node f(a:int)->(y:int){y=1" + strings.Repeat("+1", 422) + ";}node n(a:int)->(y:int){y=" + calls + ";}"
	if len(src) < api.MaxSource-10 {
		t.Errorf("a program of %d bytes is not long enough", len(src))
	}
	image := code.Pack(Program(program(t, src)))
	if len(image) > code.MaxImage/3 {
		t.Errorf("an image of %d bytes is near the bound", len(image))
	}
	if _, err := code.Unpack(image); err != nil {
		t.Error(err)
	}
}

func TestSlotsOfCallsAreFreedAgain(t *testing.T) {
	// Six nodes of 14 variables, each called by the next one, some twice.
	src := ""
	value := "0 fby v"
	for i := range api.MaxNodes {
		name := string(rune('f' + i))
		locals, equations := "", "y="+value+";"
		for j := range 12 {
			v := "v" + string(rune('a'+j))
			locals += v + ":int;"
			equations += v + "=0;"
		}
		src += "node " + name + "(v:int)->(y:int)var " + locals + "{" + equations + "}"
		value = name + "(v)"
		if i < 3 {
			value += "+" + name + "(1)"
		}
	}
	if c := Program(program(t, src)); c.Slots != api.MaxNodes*15 || len(c.Cells) != 8 {
		t.Errorf("%d slots, %d cells", c.Slots, len(c.Cells))
	}
}
