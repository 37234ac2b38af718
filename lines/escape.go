package lines

import (
	"strconv"
	"strings"
)

// escaped is a text as it stands in a line: without a byte that would end the line, or that can't be seen.
func escaped(s string) string {
	var out strings.Builder
	for i := range len(s) {
		switch b := s[i]; {
		case b == '\n':
			out.WriteString(`\n`)
		case b < 32 || b == 127:
			out.WriteString(`\x`)
			out.WriteByte(digit(b >> 4))
			out.WriteByte(digit(b & 15))
		case b == '\\':
			out.WriteByte(b)
			fallthrough
		default:
			out.WriteByte(b)
		}
	}
	return out.String()
}

// digit is a digit to the base 16.
func digit(n byte) byte { return "0123456789abcdef"[n] }

// unescaped is the text that is escaped as just these bytes.
func unescaped(s string) (string, bool) {
	var out strings.Builder
	for i := 0; i < len(s); {
		b, size := byteMeant(s[i:])
		if size == 0 {
			return "", false
		}
		out.WriteByte(b)
		i += size
	}
	text := out.String()
	// A byte may be escaped that need not be, or stand there that may not.
	return text, escaped(text) == s
}

// byteMeant is the byte that stands first in what isn't empty, and how many bytes stand for it: 0, if these stand for none.
func byteMeant(s string) (b byte, size int) {
	if s[0] != '\\' {
		return s[0], 1
	}
	switch {
	case strings.HasPrefix(s, `\\`):
		return '\\', 2
	case strings.HasPrefix(s, `\n`):
		return '\n', 2
	case strings.HasPrefix(s, `\x`) && len(s) >= 4:
		n, err := strconv.ParseUint(s[2:4], 16, 8)
		if err == nil {
			return byte(n), 4
		}
	}
	return 0, 0
}
