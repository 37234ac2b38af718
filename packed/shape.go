package packed

import "quadrille/api"

// mark is what a file begins with.
const mark = "QDR1"

// How many bytes each number has.
const (
	byteSize   = 1 // kinds, operations, faults, truths, what is fixed, how many parts
	countSize  = 2 // how many cells
	placeSize  = 2 // a column, a row
	lengthSize = 2 // a string's length
	sumSize    = 4
	singleSize = 4
	doubleSize = 8
)

// What is fixed in a reference: both together, if both are.
const (
	colFixed = 1
	rowFixed = 2
)

// The fields of a node that stand in a file.
const (
	fieldX = 1 + iota
	fieldS
	fieldB
	fieldF
	fieldRef
	fieldTo
	fieldOp
)

// A shape is what stands behind a node's Kind: fields, and then its parts, so many, or, if they are counted, as many as the byte ahead of them says.
type shape struct {
	fields  [2]int
	parts   int
	counted bool
}

// shapes has the shape of each Kind of node, for reading as for writing.
var shapes = [...]shape{
	api.NodeNumber: {fields: [2]int{fieldX}},
	api.NodeText:   {fields: [2]int{fieldS}},
	api.NodeTruth:  {fields: [2]int{fieldB}},
	api.NodeFault:  {fields: [2]int{fieldF}},
	api.NodeRef:    {fields: [2]int{fieldRef}},
	api.NodeArea:   {fields: [2]int{fieldRef, fieldTo}},
	api.NodeUnary:  {fields: [2]int{fieldOp}, parts: 1},
	api.NodeBinary: {fields: [2]int{fieldOp}, parts: 2},
	api.NodeCall:   {fields: [2]int{fieldS}, counted: true},
}
