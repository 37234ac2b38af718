package write

import (
	"quadrille/addr"
	"quadrille/api"
	"quadrille/formula"
)

// Shift is a formula as it is when it is copied so far.
func Shift(n api.Node, cols, rows int) (api.Node, api.Errno) {
	if err := formula.Check(n); err != api.OK {
		return api.Node{}, err
	}
	return shifted(formula.Copy(n), cols, rows), api.OK
}

// shifted is a node whose lists are its own, and are written over.
func shifted(n api.Node, cols, rows int) api.Node {
	switch n.Kind {
	case api.NodeRef:
		return shiftedRef(n, cols, rows)
	case api.NodeArea:
		return shiftedArea(n, cols, rows)
	}
	for i, a := range n.Args {
		n.Args[i] = shifted(a, cols, rows)
	}
	return n
}

func shiftedRef(n api.Node, cols, rows int) api.Node {
	r, ok := addr.Shift(n.Ref, cols, rows)
	if !ok {
		return noCell()
	}
	n.Ref = r
	return n
}

func shiftedArea(n api.Node, cols, rows int) api.Node {
	from, ok := addr.Shift(n.Ref, cols, rows)
	if !ok {
		return noCell()
	}
	to, ok := addr.Shift(n.To, cols, rows)
	if !ok {
		return noCell()
	}
	n.Ref, n.To = setRight(from, to)
	return n
}

// noCell stands where there is no such cell.
func noCell() api.Node { return api.Node{Kind: api.NodeFault, F: api.FaultRef} }

// setRight are an area's corners: where a fixed one was passed, columns and rows change places one by one, each with its mark.
func setRight(from, to api.Ref) (api.Ref, api.Ref) {
	if to.Addr.Col < from.Addr.Col {
		from.Addr.Col, to.Addr.Col = to.Addr.Col, from.Addr.Col
		from.ColFixed, to.ColFixed = to.ColFixed, from.ColFixed
	}
	if to.Addr.Row < from.Addr.Row {
		from.Addr.Row, to.Addr.Row = to.Addr.Row, from.Addr.Row
		from.RowFixed, to.RowFixed = to.RowFixed, from.RowFixed
	}
	return from, to
}
