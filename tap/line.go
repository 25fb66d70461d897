package tap

import (
	"strconv"
	"strings"

	"culvert/api"
	"culvert/frame"
	"culvert/script"
)

// Line: the one line that writes a frame.
func Line(f api.Frame) (string, error) {
	if len(f.Data) != frame.Size(f.Head) {
		return "", api.ErrLength
	}
	words := []string{frame.Text(f.Head)}
	if f.Head.Type == api.TypeData {
		words = append(words, script.Told(f.Data))
	}
	return join(words...), nil
}

// Parse: the frame that a line writes.
func Parse(line string) (api.Frame, error) {
	word, _, _ := strings.Cut(line, " ")
	if !beginsFrame(word) {
		return api.Frame{}, api.ErrWord
	}
	text, data, err := parts(line, word == "data")
	if err != nil {
		return api.Frame{}, err
	}
	h := guess(text)
	switch {
	case frame.Text(h) != text: // each header has one text: one that writes it otherwise is none
		return api.Frame{}, api.ErrArgument
	case frame.Size(h) != len(data):
		return api.Frame{}, api.ErrLength
	}
	return api.Frame{Head: h, Data: data}, nil
}

// join: the words as a line.
func join(words ...string) string { return strings.Join(words, " ") }

// beginsFrame: does the line of some frame begin with the word?
func beginsFrame(word string) bool {
	switch word {
	case "data", "window", "ping", "away", "type":
		return true
	}
	return false
}

// parts: the line's words of a header, and the payload that stands behind them, if it has one.
func parts(line string, hasPayload bool) (text string, data []byte, err error) {
	if !hasPayload {
		return line, nil, nil
	}
	last := strings.LastIndexByte(line, ' ') // no payload's text has a blank in it
	if last < 0 {
		return "", nil, api.ErrArgument
	}
	data, err = script.Read(line[last+1:])
	return line[:last], data, err
}

// guess: the only header whose text this can be.
func guess(text string) api.Header {
	var h api.Header
	ahead := ""
	for word := range strings.SplitSeq(text, " ") {
		switch ahead {
		case "type":
			h.Type = uint8(number(word, 8))
		case "version":
			h.Version = uint8(number(word, 8))
		case "flags":
			h.Flags |= uint16(number(word, 16))
		case "stream":
			h.Stream = number(word, 32)
		case "length":
			h.Length = number(word, 32)
		default:
			h.Type |= typeOf(word)
			h.Flags |= flagOf(word)
		}
		ahead = word
	}
	return h
}

// number: 0 of a word that is none of so many bits.
func number(word string, bits int) uint32 {
	n, err := strconv.ParseUint(word, 10, bits)
	if err != nil {
		return 0
	}
	return uint32(n)
}

// typeOf: 0, which is that of Data, of a word that is no type.
func typeOf(word string) uint8 {
	switch word {
	case "window":
		return api.TypeWindow
	case "ping":
		return api.TypePing
	case "away":
		return api.TypeAway
	}
	return api.TypeData
}

// flagOf: 0 of a word that is no flag.
func flagOf(word string) uint16 {
	switch word {
	case "syn":
		return api.FlagSYN
	case "ack":
		return api.FlagACK
	case "fin":
		return api.FlagFIN
	case "rst":
		return api.FlagRST
	}
	return 0
}
