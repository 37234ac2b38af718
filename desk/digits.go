package desk

import (
	"strconv"
	"strings"

	"quadrille/api"
)

const (
	tens     = "0123456789"
	sixteens = tens + "abcdef"
)

// mostDigits is how many digits a number may have.
const mostDigits = 9

// minus stands ahead of a number below nought; alone it says that there are no bytes.
const minus = "-"

// numberOf is the number of a word.
func numberOf(text string) (int, api.Errno) {
	digits := strings.TrimPrefix(text, minus)
	if digits == "" || len(digits) > mostDigits || strings.Trim(digits, tens) != "" {
		return 0, api.ErrForm
	}
	n, _ := strconv.Atoi(text) // never refused: an int holds so many digits
	return n, api.OK
}

// bytesOf are the bytes of a word, two digits each.
func bytesOf(text string) (string, api.Errno) {
	switch {
	case text == minus:
		return "", api.OK
	case len(text)%2 != 0:
		return "", api.ErrForm
	}
	var out strings.Builder
	for i := 0; i < len(text); i += 2 {
		high, low := strings.IndexByte(sixteens, text[i]), strings.IndexByte(sixteens, text[i+1])
		if high < 0 || low < 0 {
			return "", api.ErrForm
		}
		out.WriteByte(byte(high<<4 | low))
	}
	return out.String(), api.OK
}

// digitsOf are bytes as such a word has them.
func digitsOf(bytes string) string {
	var out strings.Builder
	for i := range len(bytes) {
		out.WriteByte(sixteens[bytes[i]>>4])
		out.WriteByte(sixteens[bytes[i]&15])
	}
	return out.String()
}
