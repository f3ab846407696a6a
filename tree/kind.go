package tree

// Kind tells what an expr is.
type Kind int

const (
	Number Kind = iota
	True
	False
	Variable
	Call
	If
	Merge
	When
	Whenot
	Fby
	Negate
	Not
	And
	Or
	Xor
	Equal
	Unequal
	Less
	LessEqual
	Add
	Subtract
	Multiply
	Divide
	Remainder
)

var words = [...]string{
	True: "true", False: "false", If: "if", Merge: "merge",
	When: "when", Whenot: "whenot", Fby: "fby",
	Negate: "-", Not: "not", And: "and", Or: "or", Xor: "xor",
	Equal: "=", Unequal: "<>", Less: "<", LessEqual: "<=",
	Add: "+", Subtract: "-", Multiply: "*", Divide: "/", Remainder: "%",
}

// Word is the sign or keyword that makes an expr of this kind; some have none.
func (k Kind) Word() string { return words[k] }

// Word is the keyword of a type.
func (t Type) Word() string {
	if t == Bool {
		return "bool"
	}
	return "int"
}
