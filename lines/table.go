package lines

import (
	"strings"

	"quadrille/addr"
	"quadrille/api"
	"quadrille/show"
	"quadrille/value"
)

// allMay tells whether what each cell shows may be.
func allMay(l []api.Cell) bool {
	for _, one := range l {
		if !value.Valid(one.V) {
			return false
		}
	}
	return true
}

// within is what the cells of an area show: the last one of those that stand there.
func within(l []api.Cell, a api.Area) map[api.Addr]api.Value {
	values := map[api.Addr]api.Value{}
	for _, one := range l {
		if addr.In(a, one.At) {
			values[one.At] = one.V
		}
	}
	return values
}

// field is a value as it stands in a table.
func field(v api.Value, f api.Format) string {
	switch v.Kind {
	case api.Number:
		text, _ := show.Show(v.X, f)
		if strings.Contains(text, ",") {
			return quoted(text)
		}
		return text
	case api.Text:
		if needsQuotes(v.S) {
			return quoted(v.S)
		}
		return v.S
	}
	return wordText(v)
}

// needsQuotes tells whether a text without quotes would not be read as itself, or not be seen to be itself.
func needsQuotes(s string) bool {
	if s == "" || strings.ContainsAny(s, ",\"\n\r") || s[0] == ' ' || s[len(s)-1] == ' ' {
		return true
	}
	_, is := word(s)
	return is
}

func quoted(s string) string { return `"` + strings.ReplaceAll(s, `"`, `""`) + `"` }
