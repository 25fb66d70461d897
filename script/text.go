package script

import (
	"strconv"
	"strings"

	"culvert/api"
)

const (
	escape = '%'
	digits = "0123456789abcdef"
)

// Told: a byte list as the text that commands and answers write it.
func Told(b []byte) string {
	if len(b) == 0 {
		return "%"
	}
	var text strings.Builder
	for _, c := range b {
		if isPlain(c) {
			text.WriteByte(c)
		} else {
			text.WriteByte(escape)
			text.WriteByte(digits[c>>4])
			text.WriteByte(digits[c&15])
		}
	}
	return text.String()
}

// Read: the byte list that such a text writes.
func Read(text string) ([]byte, error) {
	b := guess(text)
	if Told(b) != text { // each list has one text: one that writes it otherwise is none
		return nil, api.ErrArgument
	}
	return b, nil
}

// isPlain: does the byte stand for itself?
func isPlain(c byte) bool { return c > ' ' && c <= '~' && c != escape }

// guess: the only byte list whose text this can be.
func guess(text string) []byte {
	b := make([]byte, 0, len(text))
	for i := 0; i < len(text); i++ {
		switch {
		case text[i] != escape:
			b = append(b, text[i])
		case i+2 < len(text):
			c, _ := strconv.ParseUint(text[i+1:i+3], 16, 8)
			b = append(b, byte(c))
			i += 2
		}
	}
	return b
}
