package code

import (
	"errors"
	"hash/fnv"
	"reflect"
	"slices"
	"testing"

	"cadence/api"
	"cadence/fault"
)

// sample has every op, each with what it needs on the stack.
func sample() *Code {
	c := &Code{Bools: []bool{false, true}, Outputs: 3, Slots: 6, Cells: []int64{0, -1, -1 << 63, 1<<63 - 1}, Depth: 3}
	push := func(n int) {
		for i := range n {
			c.Row = append(c.Row, Instruction{Push, int64(i) - 1})
		}
	}
	for op := range Op(len(shapes)) {
		push(shapes[op].takes)
		operand := int64(0)
		switch shapes[op].operand {
		case constant:
			operand = 0x0102030405060708
		case slot:
			operand = 5
		case cell:
			operand = 3
		}
		c.Row = append(c.Row, Instruction{op, operand})
		if shapes[op].gives > 0 {
			c.Row = append(c.Row, Instruction{Store, 0})
		}
	}
	return c
}

func TestUnpackGivesWhatWasPacked(t *testing.T) {
	for _, c := range []*Code{sample(), {Slots: 1}, {Bools: []bool{true}, Slots: 1}} {
		got, err := Unpack(Pack(c))
		if err != nil || !reflect.DeepEqual(got, c) {
			t.Errorf("Unpack of %v: %v, %v", c, got, err)
		}
	}
}

func TestEveryOpHasAShape(t *testing.T) {
	for op := range Op(len(shapes)) {
		if s := shapes[op]; s.takes+s.gives == 0 {
			t.Errorf("op %d has no shape", op)
		}
	}
	if len(shapes) != int(Remainder)+1 {
		t.Errorf("%d shapes", len(shapes))
	}
}

func TestUnpackRefuses(t *testing.T) {
	head := func(rest ...byte) []byte { return append([]byte(mark), rest...) }
	// No inputs, one output, two slots, one cell.
	row := func(rest ...byte) []byte {
		return append(head(0, 1, 2, 1, 0, 0, 0, 0, 0, 0, 0, 0), rest...)
	}
	if _, err := Unpack(seal(row())); err != nil {
		t.Errorf("an empty row: %v", err)
	}
	for _, c := range []struct {
		why   string
		image []byte
		place int
	}{
		{"nothing", nil, 0},
		{"half a mark", []byte(mark[:2]), 2},
		{"another mark", []byte("cdn1\x00\x00\x00\x00"), 4},
		{"another mark", []byte("Cdn2\x00\x00\x00\x00"), 1},
		{"a mark alone", head(), 4},
		{"an input of no type", head(1, 2, 0, 1, 0), 6},
		{"no room for the inputs", head(2, 0, 0, 0, 1, 0), 9},
		{"no room for the outputs", head(1, 0, 1, 1, 0), 8},
		{"too many cells", append(head(0, 0, 0, api.MaxMemory+1), make([]byte, (api.MaxMemory+1)*wide)...), 8},
		{"cells that are not there", head(0, 0, 0, 2, 1, 2, 3, 4, 5, 6, 7, 8, 9), 17},
		{"an unknown op", row(byte(len(shapes))), 17},
		{"an op of 255", row(255), 17},
		{"half a constant", row(byte(Push), 1, 2, 3), 20},
		{"a slot that is not there", row(byte(Load), 2, byte(Store), 0), 18},
		{"a cell that is not there", row(byte(Recall), 1, byte(Store), 0), 18},
		{"an op without its slot", row(byte(Load)), 17},
		{"nothing to store", row(byte(Store), 0), 18},
		{"one where two are taken", row(byte(Load), 0, byte(Add), byte(Store), 0), 19},
		{"two where three are taken", row(byte(Load), 0, byte(Load), 0, byte(If), byte(Store), 0), 21},
		{"something left over", row(byte(Load), 0), 18},
	} {
		got, err := Unpack(seal(c.image))
		var f fault.Fault
		if got != nil || !errors.Is(err, fault.Image) || !errors.As(err, &f) || f.Place != c.place {
			t.Errorf("%s: %v, %v, want a fault at %d", c.why, got, err, c.place)
		}
	}
}

func TestUnpackRefusesAnotherSum(t *testing.T) {
	image := Pack(sample())
	refused := func(image []byte, place int) {
		t.Helper()
		got, err := Unpack(image)
		var f fault.Fault
		if got != nil || !errors.Is(err, fault.Image) || !errors.As(err, &f) || f.Place != place {
			t.Errorf("Unpack(%v) = %v, %v, want a fault at %d", image, got, err, place)
		}
	}
	for i := range image {
		refused(image[:i], max(0, i-wide))
		for d := range 255 {
			changed := slices.Clone(image)
			changed[i] += byte(d + 1)
			refused(changed, len(image)-wide)
		}
	}
	for v := range 256 {
		refused(append(slices.Clone(image), byte(v)), len(image)+1-wide)
	}
}

func TestSum(t *testing.T) {
	for _, s := range []string{"", "\x00", "a", mark, string(Pack(sample()))} {
		h := fnv.New64a()
		h.Write([]byte(s))
		if got := sum([]byte(s)); uint64(got) != h.Sum64() {
			t.Errorf("the sum of %q is %d, want %d", s, uint64(got), h.Sum64())
		}
	}
}

func TestUnpackBoundsTheLength(t *testing.T) {
	image := Pack(&Code{Slots: 1})
	image = image[:len(image)-wide]
	for len(image)+wide+4 <= MaxImage {
		image = append(image, byte(Load), 0, byte(Store), 0)
	}
	for len(image)+wide < MaxImage {
		image = slices.Insert(image, len(image)-2, byte(Not))
	}
	if c, err := Unpack(seal(image)); err != nil || c.Depth != 1 || len(seal(image)) != MaxImage {
		t.Errorf("%d bytes: %v", len(seal(image)), err)
	}
	if _, err := Unpack(seal(slices.Insert(image, len(image)-2, byte(Not)))); !errors.Is(err, fault.Image) {
		t.Errorf("more than %d bytes: %v", MaxImage, err)
	}
}

func TestUnpackKeepsNothingOfTheImage(t *testing.T) {
	image := Pack(sample())
	c, _ := Unpack(image)
	copy(image, slices.Repeat([]byte{255}, len(image)))
	if !reflect.DeepEqual(c, sample()) {
		t.Errorf("the code is changed with the image: %v", c)
	}
}
