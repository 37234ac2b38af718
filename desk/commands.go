package desk

// When a command may be given.
const (
	always    = iota
	idle      // while the desk doesn't gather
	gathering // while it does
)

// A command is what a line can say: its name, what stands behind that, and what it does.
type command struct {
	name  string
	takes kinds
	when  int
	does  func(*Desk, given) string
}

// mostWords is how many pieces of a line any command takes at most, its name left out.
const mostWords = 2

// kinds are what these pieces are, in their order.
type kinds [mostWords]int

// commands are all that there are.
func commands() []command {
	return []command{
		{"put", kinds{aCell, theRest}, always, (*Desk).put},
		{"empty", kinds{aCell}, always, (*Desk).empty},
		{"begin", kinds{}, idle, (*Desk).begin},
		{"end", kinds{}, gathering, (*Desk).end},
		{"drop", kinds{}, gathering, (*Desk).drop},
		{"undo", kinds{}, idle, (*Desk).undo},
		{"redo", kinds{}, idle, (*Desk).redo},
		{"backs", kinds{}, always, (*Desk).backs},
		{"get", kinds{aCell}, always, (*Desk).get},
		{"show", kinds{aCell, aFormat}, always, (*Desk).show},
		{"typed", kinds{aCell}, always, (*Desk).typed},
		{"users", kinds{aCell}, always, (*Desk).users},
		{"count", kinds{}, always, (*Desk).count},
		{"bounds", kinds{}, always, (*Desk).bounds},
		{"rows", kinds{aNumber, aNumber}, idle, (*Desk).rows},
		{"cols", kinds{aNumber, aNumber}, idle, (*Desk).cols},
		{"copy", kinds{anArea, aCell}, idle, (*Desk).copy},
		{"fill", kinds{aCell, anArea}, idle, (*Desk).fill},
		{"move", kinds{anArea, aCell}, idle, (*Desk).move},
		{"clear", kinds{anArea}, idle, (*Desk).clear},
		{"row", kinds{aCell, theRest}, idle, (*Desk).row},
		{"table", kinds{anArea, aFormat}, always, (*Desk).table},
		{"write", kinds{}, always, (*Desk).write},
		{"pack", kinds{}, always, (*Desk).pack},
		{"unpack", kinds{someBytes}, idle, (*Desk).unpack},
	}
}

// find is the command of that name.
func find(name string) (command, bool) {
	for _, c := range commands() {
		if c.name == name {
			return c, true
		}
	}
	return command{}, false
}
