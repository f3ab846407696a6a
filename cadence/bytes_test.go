package cadence

import (
	"encoding/binary"
	"hash/fnv"
	"math/rand"
	"slices"
	"testing"

	"cadence/api"
	"cadence/code"
)

// tried loads any bytes and, if they make a machine, runs it.
func tried(t *testing.T, image []byte) bool {
	t.Helper()
	room := append(slices.Clone(image), 9, 9, 9)
	m, e := Load(room[:len(image)])
	if !slices.Equal(room, append(slices.Clone(image), 9, 9, 9)) {
		t.Fatalf("Load(%.200q) writes into the bytes", image)
	}
	if e != api.OK {
		if e != api.ErrImage || m != nil {
			t.Fatalf("Load(%.200q) = %v, %d", image, m, e)
		}
		return false
	}
	if m == nil || m.Inputs() < 0 || m.Inputs() > 1000 || m.Outputs() < 0 || m.Outputs() > 1000 {
		t.Fatalf("Load(%.200q) = %v", image, m)
	}
	other, _ := Load(image)
	full(room, 0xff)
	first := instants(t, m)
	m.Reset()
	if again := instants(t, m); !slices.Equal(again, first) {
		t.Fatalf("Load(%.200q): %v, and behind Reset %v", image, first, again)
	}
	if again := instants(t, other); !slices.Equal(again, first) {
		t.Fatalf("Load(%.200q): %v, and of another machine %v", image, first, again)
	}
	return true
}

// instants runs some, and has wrong inputs refused between them.
func instants(t *testing.T, m *Machine) []int64 {
	t.Helper()
	var all []int64
	for i := range 4 {
		in := make([]int64, m.Inputs())
		for j := range in {
			in[j] = int64((i + j) / 2 % 2)
		}
		out, e := m.Step(in)
		if e != api.OK || len(out) != m.Outputs() {
			t.Fatalf("Step(%v) = %v, %d, want %d outputs", in, out, e, m.Outputs())
		}
		all = append(all, out...)
		full(out, -1)
		for _, wrong := range []int{0, m.Inputs() - 1, m.Inputs() + 1, 1001, 5000} {
			if wrong < 0 || wrong == m.Inputs() {
				continue
			}
			if out, e := m.Step(make([]int64, wrong)); len(out) != 0 || e != api.ErrInput {
				t.Fatalf("Step of %d numbers for %d inputs: %v, %d", wrong, m.Inputs(), out, e)
			}
		}
	}
	return all
}

// sealed puts the right sum behind bytes, so that it isn't the sum for which
// they are refused.
func sealed(body []byte) []byte {
	h := fnv.New64a()
	h.Write(body)
	return binary.LittleEndian.AppendUint64(slices.Clone(body), h.Sum64())
}

func imageOf(t *testing.T, src string) []byte {
	t.Helper()
	image, e, _ := Compile(src)
	if e != api.OK {
		t.Fatalf("Compile(%q): %d", src, e)
	}
	return image
}

func bodyOf(t *testing.T, src string) []byte {
	t.Helper()
	image := imageOf(t, src)
	return image[:len(image)-8]
}

func TestBytesWithoutAnImage(t *testing.T) {
	r := rand.New(rand.NewSource(12))
	for n := range 600 {
		b := []byte(anyBytes(r, n))
		for i, bound := 0, byte(1+r.Intn(255)); i < n; i++ {
			b[i] %= bound
		}
		if n == 0 {
			b = nil
		}
		if tried(t, b) || tried(t, sealed(b)) {
			t.Errorf("a machine of %q", b)
		}
	}
	for v := range 256 {
		for _, n := range []int{1, 7, 8, 9, 64, 5000} {
			if tried(t, slices.Repeat([]byte{byte(v)}, n)) {
				t.Errorf("a machine of %d bytes %d", n, v)
			}
		}
	}
	if tried(t, make([]byte, 3<<20)) {
		t.Errorf("a machine of 3 MiB")
	}
	for _, src := range seeds {
		if tried(t, []byte(src)) {
			t.Errorf("a machine of a text")
		}
	}
}

func TestDamagedImages(t *testing.T) {
	r := rand.New(rand.NewSource(13))
	refuse := func(why string, image []byte) {
		t.Helper()
		if tried(t, image) {
			t.Errorf("an image with %s is taken: %q", why, image)
		}
	}
	for _, src := range seeds {
		image := imageOf(t, src)
		for i := range image {
			refuse("its end cut off", image[:i])
			refuse("its beginning cut off", image[i+1:])
			refuse("a byte too few", slices.Delete(slices.Clone(image), i, i+1))
			for bit := range 8 {
				changed := slices.Clone(image)
				changed[i] ^= 1 << bit
				refuse("another bit", changed)
			}
			changed := slices.Clone(image)
			changed[i] += byte(1 + r.Intn(255))
			refuse("another byte", changed)
			other := r.Intn(len(image))
			changed[other] += byte(1 + r.Intn(255))
			if !slices.Equal(changed, image) {
				refuse("two other bytes", changed)
			}
		}
		for n := range 40 {
			refuse("something behind it", append(slices.Clone(image), anyBytes(r, n+1)...))
		}
		refuse("another one behind it", slices.Repeat(image, 2))
		if !tried(t, image) {
			t.Errorf("the image of %q itself is not taken", src)
		}
	}
}

func TestForgedImages(t *testing.T) {
	// Here the sums are right, so that all else has to be looked at.
	r := rand.New(rand.NewSource(14))
	taken, refused := 0, 0
	try := func(body []byte) {
		if tried(t, sealed(body)) {
			taken++
		} else {
			refused++
		}
	}
	for _, src := range seeds {
		body := bodyOf(t, src)
		for i := range body {
			try(body[:i])
			changed := slices.Clone(body)
			for _, v := range []byte{0, 1, 2, 5, 60, 61, 127, 128, 255, body[i] + 1, body[i] - 1} {
				changed[i] = v
				try(changed)
			}
			try(slices.Insert(slices.Clone(body), i, byte(r.Intn(30))))
			try(slices.Delete(slices.Clone(body), i, i+1))
		}
		for n := range 40 {
			try(append(slices.Clone(body[:r.Intn(len(body))]), anyBytes(r, n)...))
			try(append(slices.Clone(body), anyBytes(r, n)...))
		}
		try(slices.Repeat(body, 3))
		try(imageOf(t, src))
	}
	try(make([]byte, 3<<20))
	if taken < 100 || refused < 1000 {
		t.Errorf("%d images were taken and %d refused", taken, refused)
	}
}

// anyCode makes code that no program has, but that can be run.
func anyCode(r *rand.Rand) *code.Code {
	c := &code.Code{Bools: make([]bool, r.Intn(5)), Outputs: r.Intn(5), Cells: make([]int64, 1+r.Intn(60))}
	for i := range c.Bools {
		c.Bools[i] = r.Intn(2) == 0
	}
	for i := range c.Cells {
		c.Cells[i] = anyNumber(r)
	}
	c.Slots = len(c.Bools) + c.Outputs + 1 + r.Intn(20)
	depth := 0
	for n := r.Intn(200); n > 0 || depth > 0; n-- {
		i := code.Instruction{Op: code.Op(r.Intn(int(code.Remainder) + 1))}
		if n <= 0 {
			i.Op = code.Store
		}
		takes, gives := 2, 1
		switch i.Op {
		case code.Push:
			takes, i.Operand = 0, anyNumber(r)
		case code.Load:
			takes, i.Operand = 0, int64(r.Intn(c.Slots))
		case code.Recall:
			takes, i.Operand = 0, int64(r.Intn(len(c.Cells)))
		case code.Store:
			takes, gives, i.Operand = 1, 0, int64(r.Intn(c.Slots))
		case code.Keep:
			gives, i.Operand = 0, int64(r.Intn(len(c.Cells)))
		case code.If:
			takes = 3
		case code.Choose:
			i.Operand = int64(r.Intn(c.Slots))
		case code.Negate, code.Not:
			takes = 1
		}
		if takes <= depth {
			depth += gives - takes
			c.Row = append(c.Row, i)
		}
	}
	return c
}

func anyNumber(r *rand.Rand) int64 {
	return []int64{0, 1, -1, 2, least, most, int64(r.Uint64())}[r.Intn(7)]
}

func TestForgedRows(t *testing.T) {
	r := rand.New(rand.NewSource(15))
	for range 3000 {
		c := anyCode(r)
		if !tried(t, code.Pack(c)) {
			t.Errorf("%v is not taken", c)
		}
	}
}

func TestForgedMachinesAreBounded(t *testing.T) {
	// The greatest ones: of inputs, of outputs, of the stack.
	wide := &code.Code{Bools: make([]bool, 255), Slots: 255}
	broad := &code.Code{Outputs: 255, Slots: 255}
	high := &code.Code{Slots: 1}
	for range 300000 {
		high.Row = append(high.Row, code.Instruction{Op: code.Load})
	}
	for range 299999 {
		high.Row = append(high.Row, code.Instruction{Op: code.Add})
	}
	high.Row = append(high.Row, code.Instruction{Op: code.Store})
	for i, c := range []*code.Code{wide, broad, high} {
		image := code.Pack(c)
		if !tried(t, image) {
			t.Errorf("%d: %d bytes are not taken", i, len(image))
			continue
		}
		m, _ := Load(image)
		in := make([]int64, m.Inputs())
		if n := testing.AllocsPerRun(5, func() { m.Step(in) }); n > 1 {
			t.Errorf("%d: %v allocations in a step", i, n)
		}
	}
}

func FuzzLoad(f *testing.F) {
	for _, src := range append(largest(), seeds...) {
		image, _, _ := Compile(src)
		f.Add(image[:len(image)-8])
	}
	f.Fuzz(func(t *testing.T, b []byte) {
		tried(t, b)
		tried(t, sealed(b))
	})
}
