package cadence

import (
	"strings"
	"testing"

	"cadence/api"
)

func TestPrintNodes(t *testing.T) {
	for _, c := range []struct{ src, want string }{
		{"node sum(a: int) -> (s: int) { s = 0 fby s + a; }", "node sum ( a : int ) -> ( s : int ) { s = ( 0 fby ( s + a ) ) ; }\n"},
		{"\n node f(a:int,b:bool)->(y:int,z:bool)var x:int;w:bool on b;v:int on not w;{(y,z)=g(a,b,1);x=1;}node g(a:bool)->(y:bool){y=a;}\n",
			"node f ( a : int , b : bool ) -> ( y : int , z : bool ) var x : int ; w : bool on b ; v : int on not w ; { ( y , z ) = g ( a , b , 1 ) ; x = 1 ; }\nnode g ( a : bool ) -> ( y : bool ) { y = a ; }\n"},
	} {
		if s, e, place := Print(c.src); s != c.want || e != api.OK || place != 0 {
			t.Errorf("Print(%q) = %q, %d, %d, want %q", c.src, s, e, place, c.want)
		}
	}
}

func TestPrintExprs(t *testing.T) {
	for _, c := range []struct{ src, want string }{
		{"a", "a"}, {"(a)", "a"}, {"(((true)))", "true"}, {"false", "false"},
		{"0", "0"}, {"000", "0"}, {"0012", "12"}, {"9223372036854775807", "9223372036854775807"},
		{"-1", "( - 1 )"}, {"--a", "( - ( - a ) )"}, {"not not a", "( not ( not a ) )"}, {"-not a", "( - ( not a ) )"},
		{"a+b-c", "( ( a + b ) - c )"}, {"a-(b-c)", "( a - ( b - c ) )"}, {"a*b/c%d", "( ( ( a * b ) / c ) % d )"}, {"a+b*c", "( a + ( b * c ) )"}, {"a*b+c", "( ( a * b ) + c )"}, {"-a*b", "( ( - a ) * b )"}, {"a- -b", "( a - ( - b ) )"},
		{"a=b", "( a = b )"}, {"a<>b+1", "( a <> ( b + 1 ) )"}, {"(a<b)<=c", "( ( a < b ) <= c )"}, {"not a=b", "( ( not a ) = b )"},
		{"a or b and c xor d", "( ( a or ( b and c ) ) xor d )"}, {"a and b and c", "( ( a and b ) and c )"}, {"a<1 and b", "( ( a < 1 ) and b )"},
		{"0 fby 1 fby a", "( 0 fby ( 1 fby a ) )"}, {"(0 fby 1) fby a", "( ( 0 fby 1 ) fby a )"}, {"a or b fby c or d", "( ( a or b ) fby ( c or d ) )"}, {"1+(0 fby a)", "( 1 + ( 0 fby a ) )"},
		{"if a then b else c", "( if a then b else c )"}, {"if a then b else c fby d", "( if a then b else ( c fby d ) )"}, {"1 + if a then b else c + 1", "( 1 + ( if a then b else ( c + 1 ) ) )"}, {"if a then if b then c else d else e when f", "( if a then ( if b then c else d ) else ( e when f ) )"}, {"(if a then b else c) when d", "( ( if a then b else c ) when d )"},
		{"a when b whenot c", "( ( a when b ) whenot c )"}, {"-a when b", "( - ( a when b ) )"}, {"(-a) when b", "( ( - a ) when b )"}, {"a + b when c", "( a + ( b when c ) )"},
		{"f(a)", "f ( a )"}, {"f((a))", "f ( a )"}, {"f(a+1,b)", "f ( ( a + 1 ) , b )"}, {"(f(a))", "f ( a )"}, {"-f(g(a),1 fby 2)", "( - f ( g ( a ) , ( 1 fby 2 ) ) )"}, {"f(a) when c", "( f ( a ) when c )"},
		{"merge a b c", "( merge a b c )"}, {"merge a b(c)", "( merge a b c )"}, {"merge a (f(b)) ((g(c, d)))", "( merge a ( f ( b ) ) ( g ( c , d ) ) )"}, {"merge a 01 true", "( merge a 1 true )"}, {"merge a merge b 1 2 merge c 3 4", "( merge a ( merge b 1 2 ) ( merge c 3 4 ) )"}, {"merge a b c when d", "( ( merge a b c ) when d )"}, {"merge a (b when a) (-c)", "( merge a ( b when a ) ( - c ) )"},
		{"merge a if b then c else d if e then f else g + 1", "( merge a ( if b then c else d ) ( if e then f else ( g + 1 ) ) )"}, {"merge a if b then c else f (d) e", "( merge a ( if b then c else f ( d ) ) e )"}, {"merge a (f(b) + 1) c + 1", "( ( merge a ( f ( b ) + 1 ) c ) + 1 )"},
	} {
		src := "node n(a: int) -> (y: int) { y = " + c.src + "; }"
		want := "node n ( a : int ) -> ( y : int ) { y = " + c.want + " ; }\n"
		s, e, place := Print(src)
		if s != want || e != api.OK || place != 0 {
			t.Errorf("Print(%q) = %q, %d, %d, want %q", src, s, e, place, want)
		}
		if again, _, _ := Print(s); again != s {
			t.Errorf("the canonical text %q is printed as %q", s, again)
		}
	}
}

func TestPrintRefuses(t *testing.T) {
	refused := func(want api.Errno, marked string) {
		t.Helper()
		src, place := unmark(marked)
		if s, e, at := Print(src); s != "" || e != want || at != place {
			t.Errorf("Print(%q) = %q, %d, %d, want %d, %d", src, s, e, at, want, place)
		}
	}
	refused(api.ErrLong, times(api.MaxSource+1, " "))
	refused(api.ErrSyntax, "^")
	refused(api.ErrSyntax, "node^")
	refused(api.ErrSyntax, one+"{ y = a ^a; }")
	refused(api.ErrSyntax, times(api.MaxSource, "\n")+"^")
	refused(api.ErrDeep, one+"{ y = "+times(16, "- ")+"^- a; }")
}

func TestPrintAsksNothingElse(t *testing.T) {
	for _, src := range []string{
		one + "{ y = b; }", one + "{ y = true; }", timed + "{ y = a when c; }", "node n(a: int) -> (y: int, z: int) { y = a; }", one + "{ y = y; }", one + "{ y = a" + times(61, "+(0 fby a)") + "; }",
	} {
		if e, _ := Check(src); e < api.ErrName {
			t.Errorf("Check(%q) = %d", src, e)
		}
		if s, e, place := Print(src); s == "" || e != api.OK || place != 0 {
			t.Errorf("Print(%q) = %q, %d, %d", src, s, e, place)
		}
	}
}

func TestPrintOfTheDeepest(t *testing.T) {
	// A long row is a deep tree, whatever may be open in the text.
	src := one + "{ y = a" + times(580, "+a") + "; }"
	want := "node n ( a : int ) -> ( y : int ) { y = " + times(580, "( ") + "a" + times(580, " + a )") + " ; }\n"
	if s, e, _ := Print(src); s != want || e != api.OK {
		t.Errorf("Print of a long row = %.80q, %d", s, e)
	}
	if s, _, _ := Print(one + "{ y = a" + times(150, " when c") + "; }"); strings.Count(s, "( ") != 150+2 {
		t.Errorf("Print of many whens = %.80q", s)
	}
}
