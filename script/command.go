package script

import (
	"math"
	"slices"
	"strconv"
	"strings"

	"culvert/api"
)

// command is a row of the chapter's table.
type command struct {
	name  string       // its word; with far ahead of it, if it is one of the far end's
	takes string       // what stands behind it, a letter for each word: n a number, i an id, t a text
	far   api.LinkKind // what the far end is to do; 0 of the pool's own
}

var commands = [...]command{
	{"new", "nnnnnnnnnn", 0},
	{"connect", "n", 0},
	{"cut", "n", 0},
	{"open", "", 0},
	{"write", "nt", 0},
	{"read", "nn", 0},
	{"close", "n", 0},
	{"reset", "n", 0},
	{"rounds", "n", 0},
	{"where", "n", 0},
	{"conn", "n", 0},
	{"streams", "nn", 0},
	{"history", "", 0},
	{"far open", "n", api.DoOpen},
	{"far accept", "n", api.DoAccept},
	{"far write", "nit", api.DoWrite},
	{"far read", "nin", api.DoRead},
	{"far close", "ni", api.DoClose},
	{"far reset", "ni", api.DoReset},
	{"far ping", "n", api.DoPing},
	{"far pongs", "n", api.DoPongs},
	{"far away", "n", api.DoAway},
	{"far step", "n", api.DoStep},
	{"far send", "nn", api.DoSend},
	{"far pass", "nn", api.DoPass},
	{"far inject", "nt", api.DoInject},
}

// order is a command with what stands behind it.
type order struct {
	command
	n    [10]int // its numbers, in their order; as many as new has
	id   uint32
	data []byte
}

// parse: the order that the words of a line give.
func parse(words []string) order {
	name, args := words[0], words[1:]
	if name == "far" {
		if len(args) < 2 {
			giveUp(api.ErrMany)
		}
		name, args = "far "+args[1], slices.Concat(args[:1], args[2:])
	}
	o := order{command: find(name)}
	if len(args) != len(o.takes) {
		giveUp(api.ErrMany)
	}
	o.take(args)
	return o
}

// find: the command of this name.
func find(name string) command {
	for _, c := range commands {
		if c.name == name {
			return c
		}
	}
	giveUp(api.ErrWord)
	return command{}
}

// take: the words behind the command, of which there are as many as it takes.
func (o *order) take(args []string) {
	numbers := 0
	for i, word := range args {
		switch o.takes[i] {
		case 'n':
			o.n[numbers] = number(word)
			numbers++
		case 'i':
			o.id = id(word)
		case 't':
			data, err := Read(word)
			must(err)
			o.data = data
		}
	}
}

// number: the int that strconv.Itoa writes so.
func number(word string) int {
	n, err := strconv.Atoi(word)
	if err != nil || strconv.Itoa(n) != word {
		giveUp(api.ErrArgument)
	}
	return n
}

// id: a number that a stream's id has room for.
func id(word string) uint32 {
	n := number(word)
	if n < 0 || n > math.MaxUint32 {
		giveUp(api.ErrArgument)
	}
	return uint32(n)
}

// say: a line of an answer.
func say(words ...string) string { return strings.Join(words, " ") + "\n" }

// list: a line of a word and ids behind it.
func list(word string, ids []uint32) string {
	words := []string{word}
	for _, id := range ids {
		words = append(words, tell(id))
	}
	return say(words...)
}

// tell: an id or a token as a word.
func tell(id uint32) string { return strconv.Itoa(int(id)) }
