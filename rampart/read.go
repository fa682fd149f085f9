package rampart

import (
	"strconv"
	"strings"

	"rampart/api"
	"rampart/history"
)

// Limits of a script: its lines, the bytes of each; and of its numbers: the digits.
const (
	maxLines    = 4096
	maxLine     = 65536
	maxDigits   = 12
	firstDigits = 15
	firstWord   = "first="
)

// readScript reads a script's commands; with an error the number of the first line that is none.
func readScript(script string) ([]command, int, api.Errno) {
	lines := strings.Split(script, "\n")
	if last := len(lines) - 1; lines[last] == "" {
		lines = lines[:last]
	}
	if len(script) > api.MaxText || len(lines) > maxLines {
		return nil, 1, api.ErrLine
	}
	var out []command
	for i, line := range lines {
		c, err := read(line)
		if err != api.OK {
			return nil, i + 1, err
		}
		if c != nil {
			out = append(out, c)
		}
	}
	return out, 0, api.OK
}

// read is the command that a line is; nil: it says nothing.
func read(line string) (c command, err api.Errno) {
	defer func() {
		if recover() != nil {
			c, err = nil, api.ErrLine
		}
	}()
	w := wordsOf(line)
	if len(w.left) == 0 {
		return nil, api.OK
	}
	c = w.command()
	w.end()
	return c, api.OK
}

// breakOff gives a line up, wherever in it one is: it is no command.
func breakOff() { panic(api.ErrLine) }

// words are those of a line that are not read yet. What isn't there, or isn't of its form, breaks the line off.
type words struct{ left []string }

func wordsOf(line string) *words {
	if len(line) > maxLine || strings.Contains(line, "\n") {
		breakOff()
	}
	said, _, _ := strings.Cut(line, "#")
	return &words{left: strings.FieldsFunc(said, isBlank)}
}

func isBlank(r rune) bool { return r == ' ' || r == '\t' }

func (w *words) command() command {
	word := w.next()
	switch word {
	case "cluster":
		return found{config: w.config()}
	case "write":
		client := w.number()
		return move{step: api.Step{Kind: api.StWrite, Node: client, Pairs: w.request("0 1 write 0").Pairs}}
	case "read":
		client := w.number()
		return move{step: api.Step{Kind: api.StRead, Node: client, Keys: w.request("0 1 read").Keys}}
	}
	for _, f := range forms {
		if f.word == word {
			return f.command(w.numbers(f))
		}
	}
	breakOff()
	return nil
}

func (w *words) config() api.Config {
	c := api.Config{Parts: w.number(), Clients: w.number(), Retain: int64(w.number()), Compact: w.number()}
	if len(w.left) > 0 {
		digits, isFirst := strings.CutPrefix(w.next(), firstWord)
		if !isFirst {
			breakOff()
		}
		c.First = number(digits, firstDigits)
	}
	return c
}

// numbers are those that a form has, each where a step has it.
func (w *words) numbers(f form) api.Step {
	s := api.Step{Kind: f.kind}
	if f.node {
		s.Node = w.number()
	}
	if f.n {
		s.N = w.number()
	}
	if f.k {
		s.K = w.number()
	}
	return s
}

// request reads all the words left as a request's pairs or keys. A history's lines have texts of the same form: what begins one makes one of them.
func (w *words) request(begins string) api.Event {
	line := strings.Join(append([]string{begins}, w.left...), " ") + "\n"
	w.left = nil
	l, _, err := history.Parse(line)
	if err != api.OK {
		breakOff()
	}
	return l[0]
}

func (w *words) number() int { return int(number(w.next(), maxDigits)) }

func (w *words) next() string {
	if len(w.left) == 0 {
		breakOff()
	}
	word := w.left[0]
	w.left = w.left[1:]
	return word
}

func (w *words) end() {
	if len(w.left) > 0 {
		breakOff()
	}
}

// number reads decimal digits alone, at most so many.
func number(word string, most int) uint64 {
	n, err := strconv.ParseUint(word, 10, 64)
	if err != nil || len(word) > most {
		breakOff()
	}
	return n
}
