package code

// mark begins every image, and changes with the form of what follows it.
const mark = "cdn2"

// MaxImage bounds what is taken for an image. The greatest program's image
// stays far below: it has at most 60 calls, of nodes of less than 1200 bytes.
const MaxImage = 1 << 20

const wide = 8 // bytes of a number

// Pack gives the code's form as bytes: the mark; the inputs, each with its
// type; how many outputs and slots there are; the cells; the row; the sum.
func Pack(c *Code) []byte {
	b := append([]byte(mark), byte(len(c.Bools)))
	for _, isBool := range c.Bools {
		b = append(b, flag(isBool))
	}
	b = append(b, byte(c.Outputs), byte(c.Slots), byte(len(c.Cells)))
	for _, v := range c.Cells {
		b = appendNumber(b, v)
	}
	for _, i := range c.Row {
		b = appendInstruction(b, i)
	}
	return seal(b)
}

func flag(set bool) byte {
	if set {
		return 1
	}
	return 0
}

func appendNumber(b []byte, v int64) []byte {
	for i := range wide {
		b = append(b, byte(v>>(8*i)))
	}
	return b
}

func appendInstruction(b []byte, i Instruction) []byte {
	b = append(b, byte(i.Op))
	switch shapes[i.Op].operand {
	case constant:
		b = appendNumber(b, i.Operand)
	case slot, cell:
		b = append(b, byte(i.Operand))
	}
	return b
}
