package cadence

import (
	"math/rand"
	"slices"
	"strings"
	"testing"

	"cadence/api"
)

// seeds are programs from which the tests make others.
var seeds = []string{
	"node sum(a: int) -> (s: int) { s = 0 fby s + a; }",
	"node n(c: bool, a: int) -> (y: int) var x: int on c; { x = 10 fby (x + a when c); y = merge c x (0 whenot c); }",
	"node f(a: int, b: bool) -> (y: int, z: bool) { y = if b then a else -1; z = not b xor a <= 2; } node n(a: int) -> (y: int, z: bool) { (y, z) = f(a * 2, a <> 3 and true); }",
	"node f(a: int) -> (y: int) { y = 0 fby a; } node n(a: int, c: bool) -> (y: int) var d: bool on c; x: int on not d; w: int on c; { d = true fby not d; x = f(a when c whenot d); w = merge d 1 x; y = merge c (f(w)) (a whenot c); }",
	"node n(a: int) -> (y: int, z: int) var x: int; w: int; { y = x; z = w + 1; x = a; w = 0 fby z; }",
}

// anyText makes a text that is near a program, or far from one.
func anyText(r *rand.Rand) string {
	switch r.Intn(10) {
	case 0:
		return anyBytes(r, r.Intn(1300))
	case 1, 2, 3:
		s := seeds[r.Intn(len(seeds))]
		at := r.Intn(len(s) + 1)
		return s[:at] + anyBytes(r, r.Intn(3)) + s[min(len(s), at+r.Intn(4)):]
	}
	s, _, _ := Print(seeds[r.Intn(len(seeds))])
	l := strings.Fields(s)
	for range r.Intn(5) {
		at, other := r.Intn(len(l)), r.Intn(len(l))
		switch r.Intn(12) {
		case 0:
			l[at], l[other] = l[other], l[at]
		case 1:
			l = append(l[:at:at], l[at+1:]...)
		case 2:
			to := min(len(l), at+4)
			l = append(l[:to:to], l[at:]...)
		default:
			l[at] = alike(r, l[at])
		}
	}
	return strings.Join(l, " ")
}

func anyBytes(r *rand.Rand, n int) string {
	b := make([]byte, n)
	for i := range b {
		b[i] = byte(r.Intn(256))
	}
	return string(b)
}

// alike gives a token that may stand where another one does.
func alike(r *rand.Rand, token string) string {
	for _, row := range []string{"int bool", "when whenot", "true false 0 a", "and or xor + - * / % = < fby"} {
		if l := strings.Fields(row); slices.Contains(l, token) {
			return l[r.Intn(len(l))]
		}
	}
	if len(token) > 1 || token < "a" || token > "z" {
		return token
	}
	return []string{"a", "c", "d", "x", "y", "z", "w", "f"}[r.Intn(8)]
}

func TestAnyTextIsAnswered(t *testing.T) {
	r := rand.New(rand.NewSource(9))
	met := map[api.Errno]int{}
	for range 15000 {
		src := anyText(r)
		e, place := Check(src)
		met[e]++
		if e < api.OK || e > api.ErrLimit || place < 0 || place > len(src) {
			t.Errorf("Check(%q) = %d, %d", src, e, place)
		}
		if (e == api.OK || e == api.ErrLong || e == api.ErrLimit) && place != 0 {
			t.Errorf("Check(%q) = %d, %d, want place 0", src, e, place)
		}
		if e2, place2 := Check(src); e2 != e || place2 != place {
			t.Errorf("Check(%q) = %d, %d, then %d, %d", src, e, place, e2, place2)
		}
		agreesWithPrint(t, src, e, place)
	}
	for e := api.OK; e <= api.ErrCause; e++ {
		if met[e] < 20 && e != api.ErrDeep {
			t.Errorf("only %d texts were answered with %d", met[e], e)
		}
	}
}

// agreesWithPrint: Print refuses what Check does, and what it prints is the same program.
func agreesWithPrint(t *testing.T, src string, e api.Errno, place int) {
	t.Helper()
	s, printed, at := Print(src)
	if e == api.ErrLong || e == api.ErrSyntax || e == api.ErrDeep {
		if s != "" || printed != e || at != place {
			t.Errorf("Print(%q) = %q, %d, %d, want %d, %d", src, s, printed, at, e, place)
		}
		return
	}
	if s == "" || printed != api.OK || at != 0 {
		t.Errorf("Print(%q) = %q, %d, %d", src, s, printed, at)
	}
	again, _ := Check(s)
	if again == api.ErrLong || again == api.ErrDeep {
		return
	}
	if again != e {
		t.Errorf("Check(%q) = %d, but of its canonical text %d", src, e, again)
	}
	if twice, _, _ := Print(s); twice != s {
		t.Errorf("the canonical text %q is printed as %q", s, twice)
	}
}

func TestLongAndDeepTextsEnd(t *testing.T) {
	for _, s := range []string{"(", "-", "not ", "0 fby ", "if ", "merge c ", "f(", "if a then ", "a when ", "a + ", "{", "node ", "a:int,", "y = a; ", "a "} {
		for _, n := range []int{1, 16, 17, 100, 100000} {
			for _, head := range []string{"", one + "{ y = ", one + "var "} {
				src := head + times(n, s)
				if e, place := Check(src); e == api.OK || place > api.MaxSource {
					t.Errorf("Check(%.60q..) = %d, %d", src, e, place)
				}
			}
		}
	}
}

func TestNothingIsKept(t *testing.T) {
	// What was asked before changes no answer, and no answer that is out is changed.
	const src = "node n(a: int) -> (y: int) { y = 007 fby (a); }"
	const want = "node n ( a : int ) -> ( y : int ) { y = ( 7 fby a ) ; }\n"
	first, _, _ := Print(src)
	for _, other := range append([]string{"", "node", one + "{ y = b; }"}, seeds...) {
		Check(other)
		Print(other)
		if s, e, place := Print(src); s != want || e != api.OK || place != 0 {
			t.Errorf("behind %q: Print = %q, %d, %d", other, s, e, place)
		}
		if e, place := Check(src); e != api.OK || place != 0 {
			t.Errorf("behind %q: Check = %d, %d", other, e, place)
		}
	}
	if first != want {
		t.Errorf("the first answer is now %q", first)
	}
}

func TestCallsAtOnce(t *testing.T) {
	// Run with -race this shows whether calls share anything.
	done := make(chan string)
	for _, src := range seeds {
		go func() {
			for range 50 {
				Check(src)
			}
			s, _, _ := Print(src)
			done <- s
		}()
	}
	got := map[string]bool{}
	for range seeds {
		got[<-done] = true
	}
	for _, src := range seeds {
		if s, _, _ := Print(src); !got[s] {
			t.Errorf("Print(%q) is not what it was beside the others", src)
		}
	}
}
