package lines

import (
	"strings"

	"quadrille/addr"
	"quadrille/api"
)

// fieldRead is the content of the field that a text begins with, the empty one of an empty field, and how many bytes the field has.
func fieldRead(text string) (c api.Content, size int, err api.Errno) {
	if text[0] == '"' {
		return quotedRead(text)
	}
	size = bareSize(text)
	if size == 0 {
		return api.Content{}, 0, api.OK
	}
	c, err = bare(text[:size])
	return c, size, err
}

// bareSize is how many bytes a field without quotes has.
func bareSize(text string) int {
	size := strings.IndexAny(text, ",\n")
	switch {
	case size < 0:
		return len(text)
	case size > 0 && rowEnd(text[size-1:]) == 2:
		return size - 1 // the byte 13 belongs to the row's end
	}
	return size
}

// quotedRead reads a field in quotes.
func quotedRead(text string) (c api.Content, size int, err api.Errno) {
	size = quotedSize(text)
	if size == 0 || !fieldEnds(text[size:]) {
		return api.Content{}, 0, api.ErrForm
	}
	c, err = kept(strings.ReplaceAll(text[1:size-1], `""`, `"`))
	return c, size, err
}

// quotedSize is how many bytes stand up to the quote that ends a field, itself too; 0, if none does.
func quotedSize(text string) int {
	for i := 1; i < len(text); i++ {
		if text[i] != '"' {
			continue
		}
		if !strings.HasPrefix(text[i:], `""`) {
			return i + 1
		}
		i++ // the second one of two stands for nothing of its own
	}
	return 0
}

// fieldEnds tells whether a field can end ahead of that text.
func fieldEnds(text string) bool {
	return text == "" || text[0] == ',' || rowEnd(text) > 0
}

// rowEnd is how many bytes of a row's end a text begins with.
func rowEnd(text string) int {
	switch {
	case strings.HasPrefix(text, "\n"):
		return 1
	case strings.HasPrefix(text, "\r\n"):
		return 2
	}
	return 0
}

// mayPut tells what keeps a put from being the next one behind so many.
func mayPut(at api.Addr, ahead int) api.Errno {
	switch {
	case !addr.Valid(at):
		return api.ErrAddr
	case ahead == api.MaxCells:
		return api.ErrMany
	}
	return api.OK
}
