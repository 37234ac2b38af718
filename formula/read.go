package formula

import (
	"slices"

	"quadrille/api"
	"quadrille/lex"
)

// The levels of signs between two parts, from the loosest on.
const (
	compared = 1 + iota
	joined
	sum
	product
)

// Parse reads a formula.
func Parse(text string) (api.Node, api.Mishap) {
	words, bad := lex.Tokens(text)
	if bad.Code != api.OK {
		return api.Node{}, bad
	}
	n, bad := read(words, len(text))
	if bad.Code != api.OK {
		return api.Node{}, bad
	}
	if err := Check(n); err != api.OK {
		return api.Node{}, api.Mishap{Code: err}
	}
	return n, api.Mishap{}
}

// read is the formula that all words are, end being the place where the text ends.
func read(words []lex.Token, end int) (n api.Node, bad api.Mishap) {
	defer func() {
		if thrown := recover(); thrown != nil {
			n, bad = api.Node{}, thrown.(api.Mishap)
		}
	}()
	r := reader{left: words, end: end}
	n = r.part(compared)
	if len(r.left) > 0 {
		r.refuse()
	}
	return n, api.Mishap{}
}

// reader takes words from the left; its mishaps are thrown, and caught in read.
type reader struct {
	left []lex.Token
	end  int
}

// next is the word that stands first; a zero one, if none is left.
func (r *reader) next() lex.Token {
	if len(r.left) == 0 {
		return lex.Token{}
	}
	return r.left[0]
}

// drop leaves the next word behind.
func (r *reader) drop() { r.left = r.left[1:] }

// skip drops the next word, if it is that sign, and tells whether it was.
func (r *reader) skip(sign string) bool {
	if r.next().Text != sign {
		return false
	}
	r.drop()
	return true
}

// expect drops that sign; no other word can stand there.
func (r *reader) expect(sign string) {
	if !r.skip(sign) {
		r.refuse()
	}
}

// refuse throws that the next word can't stand there, or that there is none.
func (r *reader) refuse() {
	if len(r.left) == 0 {
		panic(api.Mishap{Code: api.ErrEnd, At: r.end})
	}
	panic(api.Mishap{Code: api.ErrSyntax, At: r.left[0].At})
}

// part is what stands there of a level, or of a tighter one.
func (r *reader) part(level int) api.Node {
	if level > product {
		return r.signed(r.power)
	}
	n := r.part(level + 1)
	for {
		op, its := between(r.next().Text)
		if its != level {
			return n
		}
		r.drop()
		n = binary(op, n, r.part(level+1))
	}
}

// between is the operation of a sign between two parts, and its level; 0 of any other word.
func between(sign string) (op, level int) {
	switch sign {
	case "=":
		return api.OpEq, compared
	case "<>":
		return api.OpNe, compared
	case "<":
		return api.OpLt, compared
	case "<=":
		return api.OpLe, compared
	case ">":
		return api.OpGt, compared
	case ">=":
		return api.OpGe, compared
	case "&":
		return api.OpJoin, joined
	case "+":
		return api.OpAdd, sum
	case "-":
		return api.OpSub, sum
	case "*":
		return api.OpMul, product
	case "/":
		return api.OpDiv, product
	}
	return 0, 0
}

// signed is a part and the signs ahead of it, the nearest one innermost.
func (r *reader) signed(part func() api.Node) api.Node {
	var ops []int
	for {
		if r.skip("+") {
			ops = append(ops, api.OpPlus)
		} else if r.skip("-") {
			ops = append(ops, api.OpMinus)
		} else {
			break
		}
	}
	n := part()
	for _, op := range slices.Backward(ops) {
		n = unary(op, n)
	}
	return n
}

// power is shares with `^` between them; behind that signs may stand.
func (r *reader) power() api.Node {
	n := r.share()
	for r.skip("^") {
		n = binary(api.OpPower, n, r.signed(r.share))
	}
	return n
}

// share is one part and the `%` behind it.
func (r *reader) share() api.Node {
	n := r.one()
	for r.skip("%") {
		n = unary(api.OpPercent, n)
	}
	return n
}

// one is a word that is a part by itself, a call, or what parentheses hold.
func (r *reader) one() api.Node {
	t := r.next()
	switch t.Kind {
	case lex.Number:
		r.drop()
		return api.Node{Kind: api.NodeNumber, X: t.X}
	case lex.Text:
		r.drop()
		return api.Node{Kind: api.NodeText, S: t.S}
	case lex.Fault:
		r.drop()
		return api.Node{Kind: api.NodeFault, F: t.F}
	case lex.Ref:
		r.drop()
		return api.Node{Kind: api.NodeRef, Ref: t.Ref}
	case lex.Name:
		r.drop()
		return r.behindName(t)
	}
	r.expect("(")
	n := r.part(compared)
	r.expect(")")
	return n
}

// behindName is what a name begins: a truth, or a call, whose mishaps stand at the name.
func (r *reader) behindName(name lex.Token) api.Node {
	if name.S == "TRUE" || name.S == "FALSE" {
		return api.Node{Kind: api.NodeTruth, B: name.S == "TRUE"}
	}
	if _, _, ok := Known(name.S); !ok {
		panic(api.Mishap{Code: api.ErrName, At: name.At})
	}
	r.expect("(")
	args := r.args()
	if err := callError(name.S, len(args)); err != api.OK {
		panic(api.Mishap{Code: err, At: name.At})
	}
	return api.Node{Kind: api.NodeCall, S: name.S, Args: args}
}

// args are a call's Args, up to its `)`.
func (r *reader) args() []api.Node {
	if r.skip(")") {
		return nil
	}
	list := []api.Node{r.arg()}
	for !r.skip(")") {
		r.expect(",")
		list = append(list, r.arg())
	}
	return list
}

// arg is one of them: here alone a `:` can follow a ref.
func (r *reader) arg() api.Node {
	if r.next().Kind == lex.Ref && len(r.left) > 1 && r.left[1].Text == ":" {
		return r.area()
	}
	return r.part(compared)
}

// area is two refs and the `:` between them.
func (r *reader) area() api.Node {
	from := r.next().Ref
	r.drop()
	r.expect(":")
	to := r.next()
	if to.Kind != lex.Ref {
		r.refuse()
	}
	r.drop()
	return corners(from, to.Ref)
}

// corners is an area by two of its corners: columns and rows change places one by one, each with its mark.
func corners(a, b api.Ref) api.Node {
	if b.Addr.Col < a.Addr.Col {
		a.Addr.Col, b.Addr.Col = b.Addr.Col, a.Addr.Col
		a.ColFixed, b.ColFixed = b.ColFixed, a.ColFixed
	}
	if b.Addr.Row < a.Addr.Row {
		a.Addr.Row, b.Addr.Row = b.Addr.Row, a.Addr.Row
		a.RowFixed, b.RowFixed = b.RowFixed, a.RowFixed
	}
	return api.Node{Kind: api.NodeArea, Ref: a, To: b}
}

// unary is an operation of one part.
func unary(op int, a api.Node) api.Node {
	return api.Node{Kind: api.NodeUnary, Op: op, Args: []api.Node{a}}
}

// binary is an operation of two parts.
func binary(op int, a, b api.Node) api.Node {
	return api.Node{Kind: api.NodeBinary, Op: op, Args: []api.Node{a, b}}
}
