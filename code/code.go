// Package code: what a program is compiled to, and its form as bytes.
//
// All of an instant is one row of instructions without jumps: what is not
// there at an instant is reckoned all the same, and not kept. So an instant
// takes the same time always, and ends.
package code

// Op tells what an instruction does. Values lie on a stack.
type Op byte

const (
	Push   Op = iota // a constant
	Load             // from a slot
	Store            // to a slot
	Recall           // from a cell
	Keep             // a value to a cell, if the one below it is not 0
	If               // the second or third, as the first says
	Choose           // the first or second, as a slot says
	Negate
	Not
	And
	Or
	Xor
	Equal
	Unequal
	Less
	LessEqual
	Add
	Subtract
	Multiply
	Divide
	Remainder
)

// Instruction is an op and what it is done with.
type Instruction struct {
	Op      Op
	Operand int64 // a constant, a slot or a cell; some have none
}

// Code is a compiled program.
type Code struct {
	Bools   []bool  // of each input, whether it is a bool; they lie in the first slots
	Outputs int     // so many, in the slots behind the inputs
	Slots   int     // what is known within an instant
	Cells   []int64 // what is remembered from instant to instant, as it is at the beginning
	Depth   int     // how many values lie on the stack at most, as Unpack finds
	Row     []Instruction
}

type operand int

const (
	nothing operand = iota
	constant
	slot
	cell
)

// shape is what an op has behind it, and what it does to the stack.
type shape struct {
	operand operand
	takes   int
	gives   int
}

var shapes = [...]shape{
	Push:   {constant, 0, 1},
	Load:   {slot, 0, 1},
	Store:  {slot, 1, 0},
	Recall: {cell, 0, 1},
	Keep:   {cell, 2, 0},
	If:     {nothing, 3, 1},
	Choose: {slot, 2, 1},
	Negate: {nothing, 1, 1}, Not: {nothing, 1, 1},
	And: {nothing, 2, 1}, Or: {nothing, 2, 1}, Xor: {nothing, 2, 1},
	Equal: {nothing, 2, 1}, Unequal: {nothing, 2, 1}, Less: {nothing, 2, 1}, LessEqual: {nothing, 2, 1},
	Add: {nothing, 2, 1}, Subtract: {nothing, 2, 1}, Multiply: {nothing, 2, 1}, Divide: {nothing, 2, 1}, Remainder: {nothing, 2, 1},
}
