package tap

import (
	"strings"

	"culvert/api"
	"culvert/frame"
	"culvert/script"
)

// blanks stand between words where a line's kind is looked for; between a frame's words there is only the first of them.
const blanks = " \t\r"

// Assemble: the bytes of the frames that a text's lines write.
func Assemble(text string) ([]byte, error) {
	var all []byte
	for line := range strings.SplitSeq(text, "\n") {
		b, err := written(line)
		if err != nil {
			return nil, err
		}
		all = append(all, b...)
	}
	return all, nil
}

// written: the bytes that one line of a text writes.
func written(line string) ([]byte, error) {
	word := firstWord(line)
	switch {
	case word == "" || strings.HasPrefix(word, "#"):
		return nil, nil
	case word == "bytes":
		return raw(line)
	}
	f, err := Parse(line)
	if err != nil {
		return nil, err
	}
	return frame.Bytes(f)
}

// raw: the bytes of a line whose first word is bytes.
func raw(line string) ([]byte, error) {
	text, ok := strings.CutPrefix(line, "bytes ")
	if !ok {
		return nil, api.ErrArgument
	}
	return script.Read(text)
}

// firstWord: nothing, if the line has no word.
func firstWord(line string) string {
	line = strings.TrimLeft(line, blanks)
	if end := strings.IndexAny(line, blanks); end >= 0 {
		return line[:end]
	}
	return line
}
