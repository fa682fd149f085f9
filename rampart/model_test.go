package rampart_test

import (
	"fmt"
	"net/url"
	"regexp"
	"strconv"
	"strings"

	"rampart/api"
	"rampart/cluster"
)

// A naive model of the chapter's words, on package cluster.

var (
	isWord   = regexp.MustCompile(`[^ \t]+`)
	isNumber = regexp.MustCompile(`^[0-9]{1,12}$`)
	isFirst  = regexp.MustCompile(`^first=([0-9]{1,15})$`)
)

// modelCommand is a line's command; without a word it says nothing.
type modelCommand struct {
	word    string
	numbers []int
	first   uint64
	pairs   []api.Pair
	keys    []string
}

// modelRead is a line's command; false: it is none.
func modelRead(line string) (modelCommand, bool) {
	if len(line) > maxLine || strings.ContainsRune(line, 10) {
		return modelCommand{}, false
	}
	if i := strings.IndexByte(line, '#'); i >= 0 {
		line = line[:i]
	}
	words := isWord.FindAllString(line, -1)
	if len(words) == 0 {
		return modelCommand{}, true
	}
	c := modelCommand{word: words[0]}
	count, is := numbersOf()[c.word]
	if !is || len(words) < 1+count {
		return modelCommand{}, false
	}
	for _, word := range words[1 : 1+count] {
		if !isNumber.MatchString(word) {
			return modelCommand{}, false
		}
		n, _ := strconv.Atoi(word)
		c.numbers = append(c.numbers, n)
	}
	for _, word := range words[1+count:] {
		if !c.more(word, len(words)-1-count) {
			return modelCommand{}, false
		}
	}
	return c, true
}

// more takes one of the words behind the numbers.
func (c *modelCommand) more(word string, of int) bool {
	switch c.word {
	case "cluster":
		m := isFirst.FindStringSubmatch(word)
		if m == nil || of > 1 {
			return false
		}
		c.first, _ = strconv.ParseUint(m[1], 10, 64)
		return true
	case "write":
		sides := strings.Split(word, "=")
		if len(sides) != 2 {
			return false
		}
		key, is1 := modelText(sides[0])
		value, is2 := modelText(sides[1])
		c.pairs = append(c.pairs, api.Pair{Key: key, Value: value})
		return is1 && is2
	case "read":
		key, is := modelText(word)
		c.keys = append(c.keys, key)
		return is
	}
	return false
}

// modelText is what a word stands for, if it is written as that is.
func modelText(word string) (string, bool) {
	if word == "%" {
		return "", true
	}
	s, err := url.PathUnescape(word)
	return s, err == nil && word != "" && modelWritten(s) == word
}

func modelWritten(s string) string {
	if s == "" {
		return "%"
	}
	out := ""
	for _, c := range []byte(s) {
		if c < 33 || c > 126 || c == '#' || c == '%' || c == '=' {
			out += fmt.Sprintf("%%%02x", c)
		} else {
			out += string(rune(c))
		}
	}
	return out
}

// step is the step of a command that is one.
func (c modelCommand) step() api.Step {
	n := append(c.numbers, 0, 0, 0)
	switch c.word {
	case "write":
		return api.Step{Kind: stWrite, Node: n[0], Pairs: c.pairs}
	case "read":
		return api.Step{Kind: stRead, Node: n[0], Keys: c.keys}
	case "tick":
		return api.Step{Kind: stTick, Node: n[0]}
	case "stop":
		return api.Step{Kind: stStop, Node: n[0]}
	case "give":
		return api.Step{Kind: stGive, Node: n[0], N: n[1]}
	case "deliver":
		return api.Step{Kind: stDeliver, N: n[0]}
	case "lose":
		return api.Step{Kind: stLose, N: n[0]}
	case "twin":
		return api.Step{Kind: stTwin, N: n[0]}
	case "part":
		return api.Step{Kind: stPart, Node: n[0]}
	case "crash":
		return api.Step{Kind: stCrash, Node: n[0], N: n[1]}
	case "restart":
		return api.Step{Kind: stRestart, Node: n[0]}
	case "full":
		return api.Step{Kind: stFull, Node: n[0], N: n[1]}
	case "arm":
		return api.Step{Kind: stArm, Node: n[0], N: n[1], K: n[2]}
	}
	return api.Step{}
}

func modelStep(line string) (api.Step, bool) {
	c, is := modelRead(line)
	if !is || !isStep(c.word) {
		return api.Step{}, false
	}
	return c.step(), true
}

// modelLines are a script's lines.
func modelLines(script string) []string {
	lines := strings.SplitAfter(script, "\n")
	if lines[len(lines)-1] == "" {
		lines = lines[:len(lines)-1]
	}
	for i, line := range lines {
		lines[i] = strings.TrimSuffix(line, "\n")
	}
	return lines
}

func modelCheck(script string) (int, api.Errno) {
	lines := modelLines(script)
	if len(script) > maxText || len(lines) > maxLines {
		return 1, errLine
	}
	for i, line := range lines {
		if _, is := modelRead(line); !is {
			return i + 1, errLine
		}
	}
	return 0, ok
}

func modelPlay(script string) (string, api.Errno) {
	if _, err := modelCheck(script); err != ok {
		return "", err
	}
	x := &model{}
	defer x.close()
	out := ""
	for _, line := range modelLines(script) {
		text, _ := x.do(line)
		out += text
	}
	return out, ok
}

// model is a shell.
type model struct {
	cluster *cluster.Cluster
	config  api.Config
	told    int // answers that were told
	closed  bool
}

func (x *model) close() {
	x.closed = true
	if x.cluster != nil {
		x.cluster.Close()
	}
}

func (x *model) do(line string) (string, api.Errno) {
	c, is := modelRead(line)
	switch {
	case !is:
		return "", errLine
	case c.word == "":
		return "", ok
	case x.closed:
		return "", errArg
	}
	return strings.Join(x.command(c), "\n") + "\n", ok
}

// command does a command: the lines that it tells.
func (x *model) command(c modelCommand) []string {
	if c.word == "cluster" {
		return x.found(api.Config{Parts: c.numbers[0], Clients: c.numbers[1], Retain: int64(c.numbers[2]), Compact: c.numbers[3], First: c.first})
	}
	if x.cluster == nil {
		return []string{"no"}
	}
	switch c.word {
	case "run":
		n := 0
		for n < c.numbers[0] && len(x.cluster.Flight()) > 0 {
			x.cluster.Do(api.Step{Kind: stDeliver})
			n++
		}
		return []string{fmt.Sprint("ok ", n)}
	case "drain":
		x.drain()
		return []string{"ok"}
	case "flight":
		return x.flight()
	case "answers":
		return x.answers()
	case "history":
		return modelEvents(x.cluster.History())
	case "state":
		return x.state(c.numbers[0])
	}
	return x.step(c)
}

func (x *model) found(config api.Config) []string {
	c, err := cluster.New(config)
	if err != ok {
		return []string{fmt.Sprint("no ", int(err))}
	}
	if x.cluster != nil {
		x.cluster.Close()
	}
	x.cluster, x.config, x.told = c, config, 0
	return []string{"ok"}
}

func (x *model) step(c modelCommand) []string {
	if !x.cluster.Do(c.step()) {
		return []string{"no"}
	}
	if c.word != "write" && c.word != "read" {
		return []string{"ok"}
	}
	txn := 0
	for _, e := range x.cluster.History() {
		if e.Client == c.numbers[0] && e.Kind != evAnswer {
			txn = e.Txn
		}
	}
	return []string{fmt.Sprint("ok ", txn)}
}

func (x *model) drain() {
	for n := range x.config.Parts {
		x.cluster.Do(api.Step{Kind: stArm, Node: n, N: -1})
	}
	for n := range x.config.Parts {
		x.cluster.Do(api.Step{Kind: stFull, Node: n, N: 0})
	}
	for n := range x.config.Parts {
		if !x.cluster.Up(n) {
			x.cluster.Do(api.Step{Kind: stRestart, Node: n})
		}
	}
	for n := range x.config.Clients {
		if x.cluster.Live(n) {
			x.cluster.Do(api.Step{Kind: stTick, Node: n})
		}
	}
	for range 4 {
		flight := x.cluster.Flight()
		for range flight {
			x.cluster.Do(api.Step{Kind: stDeliver})
		}
	}
}

func (x *model) flight() []string {
	flight := x.cluster.Flight()
	out := []string{fmt.Sprint("ok ", len(flight))}
	for _, f := range flight {
		kind := strings.Fields("- prepare commit latest byid prepared committed versions nack")[f.Message.Kind]
		out = append(out, fmt.Sprint(kind, " ", modelNode(f.From), " ", modelNode(f.To), " ", f.Message.Req))
	}
	return out
}

func modelNode(n int) string {
	if n < 0 {
		return fmt.Sprint("c", -n-1)
	}
	return fmt.Sprint("p", n)
}

func (x *model) answers() []string {
	var l []api.Event
	for _, e := range x.cluster.History() {
		if e.Kind == evAnswer {
			l = append(l, e)
		}
	}
	news := l[x.told:]
	x.told = len(l)
	return modelEvents(news)
}

func (x *model) state(n int) []string {
	if n >= x.config.Parts {
		return []string{"no"}
	}
	if !x.cluster.Up(n) {
		return []string{"ok down"}
	}
	return []string{fmt.Sprint("ok up ", x.cluster.Now(n))}
}

func modelEvents(l []api.Event) []string {
	out := []string{fmt.Sprint("ok ", len(l))}
	for _, e := range l {
		out = append(out, modelTell(e))
	}
	return out
}

func modelTell(e api.Event) string {
	switch e.Kind {
	case evWrite:
		out := fmt.Sprintf("%d %d write %d", e.Client, e.Txn, e.ID)
		for _, p := range e.Pairs {
			out += " " + modelWritten(p.Key) + "=" + modelWritten(p.Value)
		}
		return out
	case evRead:
		out := fmt.Sprintf("%d %d read", e.Client, e.Txn)
		for _, key := range e.Keys {
			out += " " + modelWritten(key)
		}
		return out
	case evAnswer:
		out := fmt.Sprintf("%d %d %s", e.Client, e.Txn, modelResult(e.Answer.Result))
		if e.Answer.ID > 0 {
			out += fmt.Sprintf(" id %d", e.Answer.ID)
		}
		for _, v := range e.Answer.Versions {
			out += fmt.Sprintf(" %s %d ", modelWritten(v.Key), v.ID)
			if v.ID == 0 {
				out += "-"
			} else {
				out += modelWritten(v.Value)
			}
		}
		return out
	}
	return "?"
}

func modelResult(r int) string {
	words := map[int]string{1: "ok", 2: "stale", 3: "aborted", 4: "unknown", 5: "invalid", 6: "exhausted"}
	if w, is := words[r]; is {
		return w
	}
	return "?"
}
