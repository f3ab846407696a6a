package code

import (
	"cadence/api"
	"cadence/fault"
)

// Unpack reads what Pack wrote. Of other bytes it takes only those that have
// the right sum and whose row can be run: a sum can be made for any bytes.
func Unpack(image []byte) (*Code, error) {
	body, err := unsealed(image)
	if err != nil {
		return nil, fault.In("loading", err)
	}
	r := reader{image: body}
	for i := range len(mark) {
		r.require(r.byte() == mark[i])
	}
	c := r.head()
	r.row(c)
	if r.err != nil {
		return nil, fault.In("loading", r.err)
	}
	return c, nil
}

// reader reads on; behind the first error it gives noughts.
type reader struct {
	image []byte
	at    int
	err   error
}

func (r *reader) fail() {
	if r.err == nil {
		r.err = fault.At(fault.Image, r.at)
	}
}

func (r *reader) require(holds bool) {
	if !holds {
		r.fail()
	}
}

func (r *reader) byte() byte {
	if r.at >= len(r.image) {
		r.fail()
	}
	if r.err != nil {
		return 0
	}
	r.at++
	return r.image[r.at-1]
}

func (r *reader) number() int64 {
	v := int64(0)
	for i := range wide {
		v |= int64(r.byte()) << (8 * i)
	}
	return v
}

// below reads a byte that is less than the bound.
func (r *reader) below(bound int) int {
	n := int(r.byte())
	r.require(n < bound)
	return n
}

func (r *reader) head() *Code {
	c := &Code{}
	for range r.byte() {
		c.Bools = append(c.Bools, r.below(2) == 1)
	}
	c.Outputs = int(r.byte())
	c.Slots = int(r.byte())
	r.require(len(c.Bools)+c.Outputs <= c.Slots)
	for range r.below(api.MaxMemory + 1) {
		c.Cells = append(c.Cells, r.number())
	}
	return c
}

// row reads to the end. It takes known ops, slots and cells that are there,
// and no more from the stack than lies on it, so that running it can't fail.
func (r *reader) row(c *Code) {
	for depth := 0; r.err == nil && (r.at < len(r.image) || depth > 0); {
		i := r.instruction(c)
		depth -= shapes[i.Op].takes
		r.require(depth >= 0)
		depth += shapes[i.Op].gives
		c.Depth = max(c.Depth, depth)
		c.Row = append(c.Row, i)
	}
}

func (r *reader) instruction(c *Code) Instruction {
	op := r.below(len(shapes))
	if r.err != nil {
		return Instruction{}
	}
	i := Instruction{Op: Op(op)}
	switch shapes[op].operand {
	case constant:
		i.Operand = r.number()
	case slot:
		i.Operand = int64(r.below(c.Slots))
	case cell:
		i.Operand = int64(r.below(len(c.Cells)))
	}
	return i
}
