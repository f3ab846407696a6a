package cadence

import (
	"strings"
	"testing"

	"cadence/api"
)

// Beginnings of programs that the tests go on with.
const (
	one   = "node n(a: int) -> (y: int) "
	timed = "node n(a: int, c: bool) -> (y: int) "
	truth = "node n(a: int, b: bool) -> (y: bool) "
	inc   = "node inc(a: int) -> (y: int) { y = a + 1; } "
	pair  = "node pair(a: int, b: bool) -> (y: int, z: bool) { y = a; z = b; } "
)

// unmark takes the ^ out of a program and tells where it stood.
func unmark(marked string) (string, int) {
	before, behind, found := strings.Cut(marked, "^")
	if !found {
		return marked, 0
	}
	return before + behind, len(before)
}

func wants(t *testing.T, want api.Errno, marked ...string) {
	t.Helper()
	for _, m := range marked {
		src, place := unmark(m)
		if e, at := Check(src); e != want || at != place {
			t.Errorf("Check(%q) = %d, %d, want %d, %d", src, e, at, want, place)
		}
	}
}

func times(n int, s string) string { return strings.Repeat(s, n) }

func TestExamples(t *testing.T) {
	wants(t, api.OK,
		"node sum(a: int) -> (s: int) { s = 0 fby s + a; }",
		"node n(a: int) -> (s: int) { s = (0 fby s) + a; }",
		"node n(c: bool, a: int) -> (y: int) var x: int on c; { x = 10 fby (x + a when c); y = merge c x (0 whenot c); }")
	for _, c := range []struct {
		src   string
		want  api.Errno
		place int
	}{
		{"node n(a: int) -> (s: int) { s = s + a; }", api.ErrCause, 5},
		{"node n(a: int) -> (s: int) { s = b; }", api.ErrName, 33},
		{"node n(a: int) -> (s: int) { s = a < 1; }", api.ErrType, 31},
		{"node n(a: int) -> (s: int) { s = a when a; }", api.ErrType, 40},
		{"node n(a: int) -> (s: int) { }", api.ErrSyntax, 29},
		{"node n(a: int) -> (s: int, t: int) { s = a; }", api.ErrDefine, 27},
	} {
		if e, place := Check(c.src); e != c.want || place != c.place {
			t.Errorf("Check(%q) = %d, %d, want %d, %d", c.src, e, place, c.want, c.place)
		}
	}
}

func TestLength(t *testing.T) {
	src := one + "{ y = a; }"
	wants(t, api.OK, src+times(api.MaxSource-len(src), "\n"))
	wants(t, api.ErrLong, src+times(api.MaxSource+1-len(src), "\n"), times(api.MaxSource+1, "#"), times(5000, "("))
	wants(t, api.ErrSyntax, times(api.MaxSource, " ")+"^", times(api.MaxSource-1, " ")+"^#")
}

func TestSyntaxPlaces(t *testing.T) {
	wants(t, api.ErrSyntax,
		"^", "\n\n ^", "^Node", "node ^node(a: int)", "node ^1", "node n ^-> (", "node n(a ^int)", "node n(a: ^a)", "node n(a: int^", "node n(a: int ^;",
		"node n(a: int, ^)", "node n(a: int) ^- > (", "node n(a: int) -> ^y", "node n(a: int) -> (y: int ^on a)",
		one+"var x ^int", one+"var x: int on ^true; ", one+"var x: int on not^", one+"var x: int; ^node", one+"var x: int ^not",
		one+"{ y = a; } ^;", one+"{ y = a ^", one+"{ y ^: int", one+"{ y ^<= a; }", one+"{ ^- y = a; }", one+"{ ^; }", one+"{ y ^(a) = 1",
		one+"{ (^(y, y) = f(a); }", one+"{ (y, ^) = f(a); }", one+"{ (y, y ^y) = f(a); }", one+"{ (y, y) ^f(a); }", one+"{ (y, y) = ^(f(a)); }", one+"{ (y, y) = f(a) ^when a; }", one+"{ (y, y) = f^; }",
		one+"{ y = a ^a", one+"{ y = a ^1; }", one+"{ y = 1 ^(a); }", one+"{ y = a ^not a; }", one+"{ y = a ^true", one+"{ y = ^+ a; }", one+"{ y = a + ^* a; }", one+"{ y = a <= a ^<> a; }", one+"{ y = a - -^; }",
		one+"{ y = (a ^, a); }", one+"{ y = f(a ^a); }", one+"{ y = f(a, ^); }", one+"{ y = f ^f; }", one+"{ y = ^fby a; }", one+"{ y = 0 fby ^fby a; }",
		one+"{ y = if ^then", one+"{ y = if a ^else", one+"{ y = if a then a else^", one+"{ y = a when c when ^(c)", one+"{ y = a whenot ^", one+"{ y = merge c ^not a a; }", one+"{ y = merge c a ^- a; }", one+"{ y = merge ^true a a; }", one+"{ y = merge c a ^when c; }", one+"{ y = merge c a b ^c; }", one+"{ y = merge c f(a) ^(a); }",
		one+"{ y = merge c if a then a else f (a) ^; }", one+"{ y = merge c 1 ^; }", one+"{ y = a ^, a; }",
		one+"{ y = a; }\n^\r", one+"{ y = ^\"a\"; }", one+"{ y = a ^! a; }", one+"{ y = ^_a; }", one+"{ y = a^.b; }", one+"{ y = ^\xff; }", one+"{ y = ^é; }", "^\x00", one+"{ y = 1^A; }", one+"{ y = a ^> a; }", one+"{ y = a ^>= a; }", one+"{ y = a <= ^> a; }")
	wants(t, api.OK, one+"{ y = if 1<2then 3else 4; }", "node n(a:int)->(y:bool){y=a<-1;}", "node n(a:int)->(y:bool){y=1<>a;}", "node if_(node_: int) -> (y: int) { y = node_; }")
}

func TestNumbersAndNamesAtTheirBounds(t *testing.T) {
	wants(t, api.OK, one+"{ y = 9223372036854775807; }", one+"{ y = "+times(300, "0")+"9223372036854775807; }", "node n(a: int) -> (abcdefghij_1: int) { abcdefghij_1 = a; }")
	wants(t, api.ErrSyntax, one+"{ y = ^9223372036854775808; }", one+"{ y = -^9223372036854775808; }", one+"{ y = a + ^"+times(300, "9")+"; }", one+"{ y = ^abcdefghij_12; }", "node ^abcdefghijklm(a: int) -> (y: int) { y = a; }", "^nodenodenoden n")
}

func locals(n int) string {
	s := ""
	for i := range n {
		s += "v" + string(rune('a'+i)) + ": int; "
	}
	return s
}

func params(n int) string {
	s := "v: int"
	for i := 1; i < n; i++ {
		s += ", v" + string(rune('a'+i)) + ": int"
	}
	return s
}

func TestNumberOfVariables(t *testing.T) {
	equations := "{ y = a; "
	for i := range 14 {
		equations += "v" + string(rune('a'+i)) + " = 1; "
	}
	wants(t, api.OK, one+"var "+locals(14)+equations+"}", "node n("+params(15)+") -> (y: int) { y = v; }")
	wants(t, api.ErrSyntax,
		one+"var "+locals(14)+"^y: int; { y = a; }", one+"var "+locals(14)+"^z",
		"node n("+params(16)+", ^x: int) -> (y: int)", "node n("+params(16)+", ^)", "node n("+params(16)+") -> (^y: int) { y = v; }", "node n("+params(16)+") ->^",
		"node n(a: int) -> ("+params(15)+", ^x: int) { }", "node n("+params(15)+") -> (y: int) var ^x: int; { y = v; x = v; }",
		"node n("+params(15)+") -> (y: int) var ^{ y = v; }")
	// The bound is each node's own.
	wants(t, api.OK, "node n("+params(15)+") -> (y: int) { y = v; } node m("+params(15)+") -> (y: int) { y = v; }")
}

func TestNumberOfNodes(t *testing.T) {
	s := ""
	for i := range 6 {
		s += "node n" + string(rune('0'+i)) + "(a: int) -> (y: int) { y = a; }\n"
	}
	wants(t, api.OK, s)
	wants(t, api.ErrSyntax, s+"^node n6(a: int) -> (y: int) { y = a; }", s+"^node", s+"^a")
}

func TestDepth(t *testing.T) {
	wants(t, api.OK,
		one+"{ y = "+times(16, "(")+"a"+times(16, ")")+"; }", one+"{ y = "+times(16, "-")+"a; }", one+"{ y = "+times(15, "0 fby ")+"(a); }", one+"{ y = "+times(16, "if true then a else ")+"a; }",
		one+"{ y = "+times(40, "(a) + ")+"a; }", one+"{ y = "+times(20, "-a + ")+"a; }", one+"{ y = "+times(15, "(")+"(a) + (a) * (a)"+times(15, ")")+"; }", one+"{ y = "+times(15, "(")+"0 fby a"+times(15, ")")+"; }",
		inc+one+"{ y = "+times(16, "inc(")+"a"+times(16, ")")+"; }",
		pair+"node n(a: int) -> (y: int, z: bool) { (y, z) = pair("+times(15, "(")+"a"+times(15, ")")+", true); }",
		"node n(c: bool) -> (y: int) { y = "+times(15, "(")+"merge c 1 2"+times(15, ")")+"; }",
		truth+"{ y = "+times(16, "not ")+"b; }")
	wants(t, api.ErrDeep,
		one+"{ y = "+times(16, "(")+"^(a", one+"{ y = "+times(16, "-")+"^- a; }", one+"{ y = "+times(16, "not ")+"^not a; }", one+"{ y = "+times(16, "0 fby ")+"0 ^fby a; }", one+"{ y = "+times(16, "if a then a else ")+"^if", one+"{ y = "+times(16, "merge c ")+"^merge", one+"{ y = "+times(16, "f(")+"f^(", one+"{ y = "+times(16, "if ")+"^(",
		one+"{ y = "+times(16, "(")+"a ^fby", one+"{ y = "+times(16, "(")+"a + ^-", one+"{ (y, z) = f("+times(15, "(")+"^(a", one+"{ y = "+times(16, "(")+"a and ^not a")
	// Whichever comes first is told.
	wants(t, api.ErrSyntax, one+"{ y = "+times(16, "(")+"^)", one+"{ y = "+times(16, "-")+"^#-", one+"{ y = a ^a"+times(17, "(")+"; }", one+"{ y = "+times(16, "(")+"^fby", one+"{ y = "+times(16, "(")+"1 ^(")
	wants(t, api.ErrDeep, one+"{ y = "+times(16, "(")+"^(#", one+"{ y = "+times(16, "(")+"a ^(", one+"{ x = "+times(16, "-")+"^-b; } #")
}

func TestNamesAreAsked(t *testing.T) {
	wants(t, api.ErrName,
		one+"{ y = a; } "+inc+"node ^n(a: int) -> (y: int) { y = a; }", inc+"node ^inc(a: int) -> (y: int) { y = a; }",
		"node n(a: int, b: int, ^a: int) -> (y: int) { y = a; }", "node n(a: int) -> (y: int, ^y: bool) { y = a; }", "node n(a: int) -> (^a: int) { y = a; }", one+"var ^a: int; { y = a; }", one+"var x: int; ^x: int; { y = a; }",
		one+"var x: int on ^b; { y = a; x = 1; }", one+"var x: int on not ^n; { y = a; x = 1; }",
		one+"{ ^b = a; }", one+"{ ^a = 1; y = 1; }", pair+"node n(a: int) -> (y: int) { (y, ^z) = pair(1, true); }", pair+"node n(a: int) -> (y: int) { (^a, y) = pair(1, true); }",
		one+"{ y = ^n; }", one+"{ y = 0 fby ^b; }", one+"{ y = a when ^b; }", one+"{ y = ^b when b; }", one+"{ y = a whenot ^b; }", one+"{ y = merge ^b a a; }", timed+"{ y = merge c ^b a; }", timed+"{ y = merge c ^inc (a); }",
		one+"{ y = ^inc(a); } "+"node inc(a: int) -> (y: int) { y = a; }", one+"{ y = ^n(a); }", one+"{ y = ^a(a); }", inc+one+"{ y = ^inc(a, a); }", inc+one+"{ y = inc(^b); }", inc+one+"{ y = inc(^inc(1, 2)); }",
		pair+one+"{ y = ^pair(a, true); }", pair+"node n(a: int) -> (y: int, z: bool, w: int) { (y, z, w) = ^pair(a, true); }", pair+"node n(a: int) -> (y: int, z: bool) { (y, z) = ^pair(a); }", inc+"node n(a: int) -> (y: int, z: bool) { (y, z) = ^inc(a); }", pair+"node n(a: int) -> (y: int, z: bool) { (y, z) = pair(^pair(a, true), true); }")
	// Of several the least place counts, in whatever order they are found.
	wants(t, api.ErrName, one+"{ ^x = b; }", one+"{ y = ^f(b); }", one+"{ y = ^b when d; y = e; }", "node n(a: int, ^a: int) -> (y: int) { y = b; } node n(a: int) -> (y: int) { y = a; }", one+"var x: int on ^d; x: int; { y = b; }")
	wants(t, api.OK, "node n(n: int) -> (inc: int) { inc = n; }", inc+"node n(inc: int) -> (y: int) { y = inc(inc); }")
}

func TestTypesAreAsked(t *testing.T) {
	for _, op := range []string{"+", "-", "*", "/", "%"} {
		wants(t, api.ErrType, one+"{ y = a ^"+op+" true; }", one+"{ y = false ^"+op+" a; }", truth+"{ y ^= a "+op+" 1; }")
		wants(t, api.OK, one+"{ y = a "+op+" 2; }")
	}
	for _, op := range []string{"<", "<="} {
		wants(t, api.ErrType, truth+"{ y = a ^"+op+" b; }", truth+"{ y = b ^"+op+" b; }", one+"{ y ^= a "+op+" 1; }")
		wants(t, api.OK, truth+"{ y = a "+op+" 2; }")
	}
	for _, op := range []string{"=", "<>"} {
		wants(t, api.ErrType, truth+"{ y = a ^"+op+" b; }", truth+"{ y = b ^"+op+" a; }", one+"{ y ^= a "+op+" 1; }")
		wants(t, api.OK, truth+"{ y = a "+op+" 2; }", truth+"{ y = b "+op+" true; }")
	}
	for _, op := range []string{"and", "or", "xor"} {
		wants(t, api.ErrType, truth+"{ y = a ^"+op+" b; }", truth+"{ y = b ^"+op+" a; }", one+"{ y ^= true "+op+" false; }")
		wants(t, api.OK, truth+"{ y = b "+op+" true; }")
	}
	wants(t, api.ErrType, truth+"{ y ^= - a; }", truth+"{ y = a = ^- b; }", one+"{ y ^= not true; }", truth+"{ y = ^not a; }",
		truth+"{ y = ^if a then b else b; }", truth+"{ y = ^if b then b else a; }", truth+"{ y ^= if b then a else a; }",
		one+"var x: int ^on a; { y = a; x = 1; }", one+"var x: int ^on not x; { y = a; x = 1; }",
		one+"{ y = a when ^a; }", one+"{ y = a whenot ^a; }", one+"{ y = merge ^a a a; }", truth+"{ y = ^merge b b a; }", truth+"{ y ^= merge b a a; }", truth+"{ y ^= a when b; }", truth+"{ y ^= a whenot b; }",
		inc+truth+"{ y ^= inc(a); }", inc+one+"{ y = ^inc(true); }", pair+"node n(a: int) -> (y: int, z: bool) { (y, z) = ^pair(a, a); }", pair+"node n(a: int) -> (y: int, z: bool) { (z, y) ^= pair(a, true); }", pair+"node n(a: int) -> (y: int, z: int) { (y, z) ^= pair(a, true); }")
}

func TestFbyWantsAConstant(t *testing.T) {
	wants(t, api.OK, one+"{ y = 1 fby a; }", one+"{ y = -1 fby a; }", one+"{ y = (1) fby a; }", one+"{ y = ((-1)) fby a; }", one+"{ y = -(1) fby a; }", truth+"{ y = true fby b; }", truth+"{ y = (false) fby b; }")
	wants(t, api.ErrType, one+"{ y = a ^fby a; }", one+"{ y = - -1 ^fby a; }", one+"{ y = -a ^fby a; }", one+"{ y = 1 + 1 ^fby a; }", one+"{ y = (1 fby 1) ^fby a; }", truth+"{ y = not true ^fby b; }", truth+"{ y = true when b ^fby b; }",
		one+"{ y = (if true then 1 else 1) ^fby a; }", inc+one+"{ y = inc(1) ^fby a; }", truth+"{ y = 1 ^fby b; }", one+"{ y = true ^fby a; }", truth+"{ y ^= 1 fby a; }")
}

func TestWhatIsWrongStillHasItsType(t *testing.T) {
	// Only the operator itself is told, not what it stands in.
	wants(t, api.ErrType, one+"{ y = 1 + (2 + (a ^+ true)); }", truth+"{ y = (a ^and b) or b; }", truth+"{ y = (b ^< a) = b; }", truth+"{ y = (a ^= b) and b; }", one+"{ y = (^if a then a else true) + 1; }", one+"{ y = (true ^fby a) + 1; }", timed+"{ y = (^merge c a true) + 1; }", one+"{ y = (a when ^a) + 1; }", inc+one+"{ y = ^inc(true) + 1; }")
	// fby is of its second operand's type, if and merge of their first one's.
	wants(t, api.ErrType, truth+"{ y ^= (true fby a); }", truth+"{ y = (^if b then b else a) and b; }", truth+"{ y ^= if b then a else b; }", truth+"{ y ^= merge b a b; }")
	// Of several the least place counts.
	wants(t, api.ErrType, one+"{ y = a ^+ true; y = not a; }", one+"var x: int ^on a; { y = not a; x = 1; }", truth+"{ y = (a ^+ b) < (b + a); }", one+"{ y ^= a < true; }", inc+one+"{ y = ^inc(a < true); }")
}

func TestClocksAreAsked(t *testing.T) {
	wants(t, api.ErrClock,
		one+"var ^x: bool on not x; { x = true; y = a; }", one+"var u: bool on v; ^v: bool on w; w: bool on not v; { u = true; v = true; w = true; y = a; }", one+"var ^u: bool on v; v: bool on w; w: bool on u; { u = true; v = true; w = true; y = a; }",
		timed+"var x: int on c; { x = ^a; y = a; }", timed+"var x: int on c; { x = 1; y = a + ^x; }", timed+"var x: int on c; z: int on not c; { x = 1; z = ^x; y = a; }", timed+"var x: int on c; { x = a ^whenot c; y = a; }", timed+"var x: int on not c; { x = a ^when c; y = a; }", timed+"{ y = a ^when c; }", timed+"{ y = a ^whenot c; }",
		timed+"var x: int on c; { x = ^x when c; y = a; }", timed+"var x: int on c; { x = (a ^when c) when c; y = a; }", timed+"var x: int on c; { x = a when c + ^a; y = a; }",
		timed+"var d: bool on c; { d = true; y = merge ^d a a; }", timed+"{ y = merge c ^a (a whenot c); }", timed+"{ y = merge c (a when c) ^a; }", timed+"{ y = merge c (a ^whenot c) (a when c); }", timed+"var x: int on c; { x = merge ^c 1 2; y = a; }",
		timed+"var x: int on c; { x = if ^c then 1 else 2; y = a; }", timed+"var x: int on c; { x = 0 fby ^a; y = a; }", inc+timed+"var x: int on c; { x = inc(^a); y = a; }", inc+timed+"var x: int on c; { x = 1; y = inc(^x); }",
		pair+timed+"var x: int; z: bool on c; { (x, ^z) = pair(a, c); y = a; }", pair+timed+"var x: int on c; z: bool on not c; { (x, ^z) = pair(1, true); y = a; }", pair+timed+"var x: int on c; z: bool on c; { (x, z) = pair(a when c, ^c); y = a; }")
	wants(t, api.OK,
		timed+"var d: bool on not c; x: int on d; z: int on not d; w: int on not c; { d = true fby (a < 0) whenot c; x = a whenot c when d; z = (a whenot c) whenot d; w = merge d x z; y = merge c 1 w; }",
		timed+"var x: int on c; z: int on c; { x = z; z = 1 + 2; y = merge c (0 fby x + z) (if true then 1 else a whenot c); }",
		pair+timed+"var x: int on c; z: bool on c; { (x, z) = pair(a when c, c when c); y = a; }", inc+timed+"{ y = merge c (inc(a when c)) (inc(a) whenot c); }")
	// Clocks are told apart by their variable, not by its values.
	wants(t, api.ErrClock, timed+"var d: bool; x: int on d; { d = c; x = a ^when c; y = a; }", timed+"var d: bool; x: int on d; z: int on c; { d = c; x = 1; z = ^x; y = a; }")
	// What is sampled by the wrong variable is not asked itself; of several the least place counts.
	wants(t, api.ErrClock, timed+"var x: int on c; { x = 1; y = x ^when c; }", timed+"var x: int on c; { x = ^a + (a whenot c); y = x; }", one+"{ y = a; } node m(c: bool) -> (y: int) var x: int on c; { x = 1; y = ^x; }", timed+"{ y = a ^when c; } node m(a: int) -> (y: int) var x: bool on x; { x = true; y = a; }")
}

func TestDefinitionsAreAsked(t *testing.T) {
	wants(t, api.ErrDefine,
		one+"{ y = a; ^y = a; }", one+"{ y = a; ^y = a; y = a; }", "node n(a: int) -> (y: int, ^z: int) { y = a; }", one+"var ^x: int; { y = a; }", one+"var x: int; ^w: int; { y = x; x = 1; }",
		pair+"node n(a: int) -> (y: int, z: bool) { z = true; (y, ^z) = pair(a, true); }", pair+"node n(a: int) -> (y: int, z: bool) { (y, z) = pair(a, true); ^y = 1; }", "node two(a: int) -> (y: int, z: int) { y = a; z = a; } "+one+"{ (y, ^y) = two(a); }")
	wants(t, api.ErrDefine, "node n(a: int) -> (^y: int) var x: int; { x = 1; x = 2; }", one+"{ y = a; ^y = 1; } node m(a: int) -> (y: int, z: int) { y = a; }")
}

func TestCausesAreAsked(t *testing.T) {
	wants(t, api.ErrCause,
		"node ^n(a: int) -> (y: int) { y = y; }", "node ^n(a: int) -> (y: int) { y = 0 * y; }", "node ^n(a: int) -> (y: int) { y = (0 fby y) + y; }", "node ^n(a: int) -> (y: int) { y = if true then a else y; }",
		"node ^n(a: int) -> (y: int) var u: int; v: int; w: int; { y = a; u = v; v = 1 + w; w = -u; }", inc+"node ^n(a: int) -> (y: int) { y = inc(y); }", "node f(a: int) -> (y: int) { y = 1; } node ^n(a: int) -> (y: int) { y = f(y); }", "node f(a: int) -> (y: int) { y = 0 fby a; } node ^n(a: int) -> (y: int) { y = f(a + y); }",
		pair+"node ^n(a: int) -> (y: int, z: bool) { (y, z) = pair(y, true); }", pair+"node ^n(a: int) -> (y: int, z: bool) { (y, z) = pair(a, z); }", pair+"node ^n(a: int) -> (y: int, z: bool) { (y, z) = pair(a, y < 1); }",
		// by what merge, when and whenot name
		"node ^n(a: int) -> (y: bool) { y = merge y true false; }", "node ^n(a: int) -> (y: int) var c: bool; x: bool on c; { c = merge c x false; x = true; y = a; }",
		"node ^n(a: int) -> (y: int) var c: bool; x: int on c; { y = merge c x 0; x = a when c; c = y < 1; }",
		// by the variable of its clock
		"node ^n(a: int) -> (y: int) var c: bool; x: int on c; w: int; { c = w < 1; x = 1; w = merge c x 2; y = a; }")
	wants(t, api.OK,
		one+"{ y = 0 fby y; }", one+"{ y = 0 fby 1 fby y + a; }", inc+one+"{ y = 0 fby inc(y); }", one+"var x: int; { y = x + 1; x = 0 fby y; }", one+"var x: int; { y = x; x = a; }",
		"node n(a: int) -> (y: bool) { y = true fby merge y (false when y) true; }", timed+"var x: int on c; { x = 0 fby x; y = merge c x 0; }", "node n(a: int) -> (y: int) var c: bool; x: int on c; { c = true fby not c; x = 0 fby x + 1; y = merge c x (0 fby y whenot c); }")
	// The first node that has one is told.
	wants(t, api.ErrCause, inc+"node ^m(a: int) -> (y: int) { y = y; } node n(a: int) -> (y: int) { y = y; }")
}

func TestMemoryIsAsked(t *testing.T) {
	chain := func(n int) string { return "a" + times(n, " + (0 fby a)") }
	wants(t, api.OK,
		one+"{ y = "+chain(60)+"; }", "node f(a: int) -> (y: int) { y = "+chain(58)+"; } "+one+"{ y = f(a) + (0 fby a); }", inc+one+"{ y = a"+times(60, " + inc(a)")+"; }",
		"node f(a: int) -> (y: int) { y = "+chain(70)+"; } "+one+"{ y = a; }",
		"node f(a: int) -> (y: int) { y = 0 fby a; } node g(a: int) -> (y: int) { y = f(a) + f(a); } "+one+"{ y = a"+times(12, " + g(a)")+"; }")
	wants(t, api.ErrLimit,
		one+"{ y = "+chain(61)+"; }", "node f(a: int) -> (y: int) { y = "+chain(58)+"; } "+one+"{ y = f(a) + (0 fby 1 fby a); }", inc+one+"{ y = a"+times(61, " + inc(a)")+"; }",
		"node f(a: int) -> (y: int) { y = "+chain(60)+"; } "+one+"{ y = f(a); }",
		"node f(a: int) -> (y: int) { y = 0 fby a; } node g(a: int) -> (y: int) { y = f(a) + f(a); } "+one+"{ y = (0 fby a)"+times(12, " + g(a)")+"; }",
		"node f(a: int) -> (y: int, z: int) { y = "+chain(30)+"; z = "+chain(30)+"; } node n(a: int) -> (y: int, z: int) { (y, z) = f(a); }")
	// However often nodes call nodes, the answer comes.
	s := "node f0(a: int) -> (y: int) { y = 0 fby a; } "
	for i := range 5 {
		f := "f" + string(rune('0'+i))
		s += "node f" + string(rune('1'+i)) + "(a: int) -> (y: int) { y = a" + times(18, "+"+f+"(a)") + "; } "
	}
	wants(t, api.ErrLimit, s)
}

func TestKindsComeInTheirOrder(t *testing.T) {
	// Each program has all the faults behind the one that is told, most of them further ahead in the text.
	const (
		cause  = "node ^n(a: int, c: bool) -> (y: int) { y = y; } "
		define = "node n(a: int, c: bool) -> (y: int, ^z: int) { y = y; } "
		clock  = "node m(a: int, c: bool) -> (y: int) { y = a ^when c; } "
		typed  = "node o(a: int, c: bool) -> (y: int) { y ^= c; } "
		named  = "node p(a: int, c: bool) -> (y: int) { y = ^b; } "
	)
	plain := func(s string) string { return strings.ReplaceAll(s, "^", "") }
	main := "node q(a: int) -> (y: int) { y = " + times(61, "(0 fby a) + ") + "a; }"
	wants(t, api.ErrLimit, main)
	wants(t, api.ErrCause, cause+main)
	wants(t, api.ErrDefine, define+main)
	wants(t, api.ErrClock, plain(define)+clock+main)
	wants(t, api.ErrType, plain(define)+plain(clock)+typed+main)
	wants(t, api.ErrName, plain(define)+plain(clock)+plain(typed)+named+main)
	wants(t, api.ErrSyntax, plain(define)+plain(named)+"^#")
	wants(t, api.ErrDeep, plain(define)+plain(named)+one+"{ y = "+times(16, "(")+"^(")
	wants(t, api.ErrLong, plain(define)+plain(named)+times(1200, "#"))
}
