package rampart_test

import (
	"fmt"
	"strings"
	"testing"

	"rampart/api"
	"rampart/rampart"
)

// What a line, a word, a number, a text, a pair and a script are.

// wholeLine is a command with each of its numbers.
func wholeLine(word string) string {
	return withNumbers(word, strings.Fields(strings.Repeat("1 ", numbersOf()[word]))...)
}

func TestNumbersMissingAndTooMany(t *testing.T) {
	s := tells(t, small, "write 0 a=1 b=2", "deliver 0")
	for _, word := range all() {
		isCommand(t, wholeLine(word))
		count := numbersOf()[word]
		for fewer := range count {
			isNone(t, s, withNumbers(word, strings.Fields(strings.Repeat("1 ", fewer))...))
		}
		switch word {
		case "read": // there it is a key
			isCommand(t, wholeLine(word)+" 1")
		default:
			isNone(t, s, wholeLine(word)+" 1")
		}
	}
}

func TestNumbersByTheirDigits(t *testing.T) {
	s := tells(t, small, "write 0 a=1 b=2", "deliver 0")
	for _, word := range all() {
		for place := range numbersOf()[word] {
			numbers := strings.Fields(strings.Repeat("1 ", numbersOf()[word]))
			for _, number := range []string{"0", "9", "07", "00", "000000000000", "000000000001", "123456789012", "999999999999"} {
				numbers[place] = number
				isCommand(t, withNumbers(word, numbers...))
			}
			for _, none := range []string{"0000000000001", "1234567890123", "0000000000000", "99999999999999999999999", "-1", "+1", "-0", "1.0", "1.", "0x1", "1e1", "1_0", "a", "1a", "a1", "%31", "%", "=", "1=1", "１", "٣", "1\r", "\x001"} {
				numbers[place] = none
				isNone(t, s, withNumbers(word, numbers...))
			}
		}
	}
}

// Each number of a form goes to its own field of the step.
func TestNumbersOfSteps(t *testing.T) {
	for _, node := range []int{0, 7, 12, 999999999999} {
		isStepOf(t, fmt.Sprint("tick ", node), api.Step{Kind: stTick, Node: node})
		isStepOf(t, fmt.Sprint("stop ", node), api.Step{Kind: stStop, Node: node})
		isStepOf(t, fmt.Sprint("part ", node), api.Step{Kind: stPart, Node: node})
		isStepOf(t, fmt.Sprint("restart ", node), api.Step{Kind: stRestart, Node: node})
		isStepOf(t, fmt.Sprint("deliver ", node), api.Step{Kind: stDeliver, N: node})
		isStepOf(t, fmt.Sprint("lose ", node), api.Step{Kind: stLose, N: node})
		isStepOf(t, fmt.Sprint("twin ", node), api.Step{Kind: stTwin, N: node})
		isStepOf(t, fmt.Sprint("write ", node), api.Step{Kind: stWrite, Node: node})
		isStepOf(t, fmt.Sprint("read ", node), api.Step{Kind: stRead, Node: node})
		isStepOf(t, fmt.Sprint("write ", node, " 3=5 b=%"), api.Step{Kind: stWrite, Node: node, Pairs: []api.Pair{pair("3", "5"), pair("b", "")}})
		isStepOf(t, fmt.Sprint("read ", node, " 3 % 3"), api.Step{Kind: stRead, Node: node, Keys: []string{"3", "", "3"}})
		for _, n := range []int{0, 5, 123456789012} {
			isStepOf(t, fmt.Sprint("give ", node, " ", n), api.Step{Kind: stGive, Node: node, N: n})
			isStepOf(t, fmt.Sprint("crash ", node, " ", n), api.Step{Kind: stCrash, Node: node, N: n})
			isStepOf(t, fmt.Sprint("full ", node, " ", n), api.Step{Kind: stFull, Node: node, N: n})
			isStepOf(t, fmt.Sprint("arm ", node, " ", n, " 3"), api.Step{Kind: stArm, Node: node, N: n, K: 3})
			isStepOf(t, fmt.Sprint("arm ", node, " 3 ", n), api.Step{Kind: stArm, Node: node, N: 3, K: n})
		}
	}
	isStepOf(t, "arm 007 000000000012 00", api.Step{Kind: stArm, Node: 7, N: 12})
	isStepOf(t, "\tcrash  007\t \t000000000012 # 4", api.Step{Kind: stCrash, Node: 7, N: 12})
	for _, line := range []string{"", " \t", "# write 0", "cluster 1 1 1 0", "cluster 1 1 1 0 first=1", "run 1", "drain", "flight", "answers", "history", "state 0", "now", "write", "tick"} {
		if step, is := rampart.Step(line); is || !sameStep(step, api.Step{}) {
			t.Errorf("P25.1: Step(%q) is %s, %t; it should be none", line, show(step), is)
		}
	}
}

func TestFirst(t *testing.T) {
	s := tells(t, small, "write 0 a=1 b=2", "deliver 0")
	for _, first := range []string{"", " first=0", " first=1", " first=000000000000001", " first=999999999999999", " first=1234567890123", "\t first=7  "} {
		isCommand(t, "cluster 1 1 1 0"+first)
	}
	for _, line := range []string{
		"cluster 1 1 1 0 first=0000000000000001", "cluster 1 1 1 0 first=1234567890123456", "cluster 1 1 1 0 first=99999999999999999999999",
		"cluster 1 1 1 0 first=", "cluster 1 1 1 0 first", "cluster 1 1 1 0 first= 1", "cluster 1 1 1 0 first =1", "cluster 1 1 1 0 First=1", "cluster 1 1 1 0 =1",
		"cluster 1 1 1 0 first=-1", "cluster 1 1 1 0 first=+1", "cluster 1 1 1 0 first=1_0", "cluster 1 1 1 0 first=a", "cluster 1 1 1 0 first=first=1", "cluster 1 1 1 0 first=1=1",
		"cluster 1 1 1 0 first==1", "cluster 1 1 1 0 xfirst=1", "cluster 1 1 1 0 clients=1", "cluster 1 1 1 0 firs=1", "cluster 1 1 1 0 firstt=1",
		"cluster 1 1 1 0 first=1 first=1", "cluster 1 1 1 0 first=1 1", "cluster 1 1 1 0 1 first=1",
		"cluster first=1 1 1 1 0", "cluster 1 first=1 1 1 0", "cluster 1 1 first=1 1 0", "cluster 1 1 1 first=1 0", "first=1 cluster 1 1 1 0", "cluster first=1", "cluster 1 1 1 first=1",
		"run 1 first=1", "drain first=1", "state 0 first=1", "tick 0 first=1", "first=1",
	} {
		isNone(t, s, line)
	}
	// It is a pair and no key.
	isStepOf(t, "write 0 first=1", api.Step{Kind: stWrite, Pairs: []api.Pair{pair("first", "1")}})
	isNone(t, s, "read 0 first=1")

	tells(t, "cluster 1 2 1 0 => ok", "write 1 a=1", "history => ok 1; 1 1 write 65537 a=1")
	tells(t, "cluster 1 2 1 0 first=0 => ok", "write 1 a=1", "history => ok 1; 1 1 write 65537 a=1")
	tells(t, "cluster 1 2 1 0 first=1 => ok", "write 1 a=1", "history => ok 1; 1 1 write 65537 a=1")
	tells(t, "cluster 1 2 1 0 first=000000000000012 => ok", "write 1 a=1", "history => ok 1; 1 1 write 786433 a=1")
	tells(t, "cluster 1 2 1 0 first=281474976710655 => ok", "write 1 a=1", "history => ok 1; 1 1 write 18446744073709486081 a=1")
	tells(t, "cluster 1 2 1 0 first=281474976710656 => no 1", "cluster 1 2 1 0 first=999999999999999 => no 1", "flight => no")
}

// isPlain is the chapter's rule: a byte that is written as it is.
func isPlain(c byte) bool { return c > 32 && c < 127 && c != 35 && c != 37 && c != 61 }

// asText tells of a word that is one word of a line whether it is the text s, as a key of a read, of a write, and as a value.
func asText(t *testing.T, shell *rampart.Shell, word, s string, is bool) {
	t.Helper()
	if is {
		isStepOf(t, "read 3 "+word, api.Step{Kind: stRead, Node: 3, Keys: []string{s}})
		isStepOf(t, "write 3 "+word+"=v", api.Step{Kind: stWrite, Node: 3, Pairs: []api.Pair{pair(s, "v")}})
		isStepOf(t, "write 3 k="+word, api.Step{Kind: stWrite, Node: 3, Pairs: []api.Pair{pair("k", s)}})
		isTold(t, read(3, 1, s), "3 1 read "+word)
		isTold(t, write(3, 1, 0, pair(s, "v"), pair("k", s)), "3 1 write 0 "+word+"=v k="+word)
		isTold(t, answer(3, 1, 1, 0, version(s, 5, s), version(s, 0, "")), "3 1 ok "+word+" 5 "+word+" "+word+" 0 -")
		return
	}
	isNone(t, shell, "read 3 "+word)
	isNone(t, shell, "read 3 a "+word)
	isNone(t, shell, "write 3 "+word+"=v")
	isNone(t, shell, "write 3 k="+word)
	isNone(t, shell, "write 3 k=v k="+word)
}

func TestTextsByteForByte(t *testing.T) {
	s := tells(t, "cluster 1 1 1 0")
	for n := range 256 {
		c := byte(n)
		itself, written := string([]byte{c}), fmt.Sprintf("%%%02x", c)
		cuts := c == 9 || c == 10 || c == 32 || c == 35 || c == 61 // these make other words of it
		for _, around := range [][2]string{{"", ""}, {"x", ""}, {"", "y"}, {"x", "y"}, {"%20", "%00"}} {
			front, behind := around[0], around[1]
			if front == "%20" {
				front, behind = " ", "\x00"
			}
			s1 := front + itself + behind
			if !cuts && !(c == '%' && s1 == "%") {
				asText(t, s, around[0]+itself+around[1], s1, isPlain(c))
			}
			asText(t, s, around[0]+written+around[1], s1, !isPlain(c))
			if upper := fmt.Sprintf("%%%02X", c); upper != written {
				asText(t, s, around[0]+upper+around[1], "", false)
			}
		}
	}
}

func TestTextsSpoilt(t *testing.T) {
	s := tells(t, "cluster 1 1 1 0")
	asText(t, s, "%", "", true)
	asText(t, s, "%00%ff%25%3d%23%20", "\x00\xff%=# ", true)
	asText(t, s, "!\"$&'()*+,-./0123456789:;<>?@AZ[\\]^_`az{|}~", "!\"$&'()*+,-./0123456789:;<>?@AZ[\\]^_`az{|}~", true)
	asText(t, s, "-", "-", true)
	asText(t, s, "%c3%a4", "ä", true)
	for _, none := range []string{
		"%%", "a%", "%a", "a%b", "%2", "%g0", "%0g", "%2g", "a%2", "%20%", "%%20", "%20%2", "%0x", "%-1", "%+1", "%61", "%41", "%7e", "%21", "%3D", "%C8", "%fF", "%Ff",
		"ä", "\xff", "a\x00", "\x7f", "a\r", "\v", "\f", "\u00a0", "\u2003", "%u0020", "%1", "%e",
	} {
		asText(t, s, none, "", false)
	}
	isStepOf(t, "read 0 % 20", api.Step{Kind: stRead, Keys: []string{"", "20"}})
	isNone(t, s, "read 0 a% 20#")
}

func TestPairs(t *testing.T) {
	s := tells(t, "cluster 1 1 1 0")
	for _, none := range []string{"a", "%", "=", "==", "a=", "=a", "a==", "==a", "a==b", "a=b=", "=a=b", "a=b=c", "%=", "=%", "a%3db", "a =b", "a= b", "a = b"} {
		isNone(t, s, "write 0 "+none)
		isNone(t, s, "write 0 x=y "+none)
		isNone(t, s, "write 0 "+none+" x=y")
	}
	for _, none := range []string{"a=b", "=", "a=", "=a"} {
		isNone(t, s, "read 0 "+none)
		isNone(t, s, "read 0 a "+none)
	}
	isStepOf(t, "write 0 %=%", api.Step{Kind: stWrite, Pairs: []api.Pair{pair("", "")}})
	isStepOf(t, "write 0 a%3db=%3d", api.Step{Kind: stWrite, Pairs: []api.Pair{pair("a=b", "=")}})
	isStepOf(t, "write 0 a=b a=b b=a", api.Step{Kind: stWrite, Pairs: []api.Pair{pair("a", "b"), pair("a", "b"), pair("b", "a")}})
}

func TestLinesThatSayNothing(t *testing.T) {
	s := tells(t, small, "write 0 a=1 b=2", "deliver 0")
	for _, line := range []string{"", " ", "\t", " \t \t", "#", "##", " #", "\t# write 0 a=1", "# \xff \x00", "#drain", strings.Repeat(" ", maxLine), strings.Repeat("\t", maxLine), strings.Repeat("#", maxLine), " #" + strings.Repeat("\xff", maxLine-2)} {
		for _, shell := range []*rampart.Shell{s, newShell(t)} {
			ahead := told(shell)
			does(t, shell, line, "", ok)
			if told(shell) != ahead {
				t.Errorf("P25.3: %s changed what the shell tells", short(line))
			}
		}
		if n, err := rampart.Check(line); n != 0 || err != ok {
			t.Errorf("P25.1: Check(%s) is %d, %d", short(line), n, int(err))
		}
		if text, err := rampart.Play(line); text != "" || err != ok {
			t.Errorf("P25.1: Play(%s) is %q, %d", short(line), text, int(err))
		}
	}
	for _, line := range []string{"\r", "\v", "\f", "\x00", "\u00a0", "\u0085", "\u2003", "\xff", "%", "=", "-", "//", "; #", "0", "cluster#", "Drain", "DRAIN", "drain,", "\"drain\"", "drain;", "drainflight", "drain flight", "writ 0", "writes 0", "help", "%64rain"} {
		isNone(t, s, line)
	}
}

// Blanks of both kinds, as many as there are, part words; nothing else does.
func TestBlanks(t *testing.T) {
	for _, line := range []string{"write 3 a=1 b=2", " write 3 a=1 b=2", "write 3 a=1 b=2 ", "\twrite\t3\ta=1\tb=2\t", "  \t write \t\t 3  a=1 \t b=2  ", "write 3 a=1 b=2# c=3", "write 3 a=1 b=2 #", "write 3 a=1 b=2\t#\t#"} {
		isStepOf(t, line, api.Step{Kind: stWrite, Node: 3, Pairs: []api.Pair{pair("a", "1"), pair("b", "2")}})
	}
	s := tells(t, small)
	for _, line := range []string{"write\r3", "write\v3 a=1", "write\u00a03", "write,3", "write0", "write\x003", "deliver\u20030", "flight\r", "flight\x00"} {
		isNone(t, s, line)
	}
}

// What stands from a # on falls away, wherever it stands; a byte 10 makes a line none, wherever it stands.
func TestEachPlaceOfALine(t *testing.T) {
	for _, line := range []string{"cluster 2 1 10 0 first=12", "write 0 a=1 %20=%", "read 0 a % b", "arm 1 20 300", "run 12", "drain", "state 1 ", "\tflight", "# flight", "", " "} {
		for at := range len(line) + 1 {
			cut := line[:at] + "#" + line[at:]
			x := &model{}
			want, wantErr := x.do(line[:at])
			x.close()
			does(t, newShell(t), cut, want, wantErr)
			step, is := rampart.Step(cut)
			if wantStep, wantIs := modelStep(line[:at]); is != wantIs || !sameStep(step, wantStep) {
				t.Errorf("P25.1: Step(%q) is %s, %t; it should be %s, %t", cut, show(step), is, show(wantStep), wantIs)
			}
			isNone(t, newShell(t), line[:at]+"\n"+line[at:])
			isNone(t, newShell(t), line[:at]+"#\n"+line[at:])
		}
	}
}

func TestLongLines(t *testing.T) {
	s := newShell(t)
	for _, front := range []string{"read 0 ", "write 0 a=", "flight #", "drain ", "", "#", "write 0 a=1 ", "run 0\t"} {
		fill := " "
		if strings.HasSuffix(front, "read 0 ") || strings.HasSuffix(front, "=") || strings.HasSuffix(front, "#") {
			fill = "x"
		}
		atLimit := front + strings.Repeat(fill, maxLine-len(front))
		above := atLimit + fill
		if n, err := rampart.Check(atLimit); n != 0 || err != ok {
			t.Errorf("P25.1: Check of %q and 65536 bytes in all is %d, %d", front, n, int(err))
		}
		if n, err := rampart.Check("drain\n" + atLimit + "\ndrain"); n != 0 || err != ok {
			t.Errorf("P25.1: Check of a script with %q and 65536 bytes in all is %d, %d", front, n, int(err))
		}
		if _, err := s.Do(atLimit); err != ok {
			t.Errorf("P25.1: Do of %q and 65536 bytes in all is refused by %d", front, int(err))
		}
		isNone(t, s, above)
		isNone(t, s, above+strings.Repeat(" ", 100000))
		isNone(t, s, above+"#")
	}
	value := strings.Repeat("v", maxLine-len("write 0 k="))
	isStepOf(t, "write 0 k="+value, api.Step{Kind: stWrite, Pairs: []api.Pair{pair("k", value)}})
	isStepOf(t, "read 0 %20"+value[:maxLine-10], api.Step{Kind: stRead, Keys: []string{" " + value[:maxLine-10]}})
	keys := strings.Repeat("% ", 30000)
	isStepOf(t, "read 0 "+keys, api.Step{Kind: stRead, Keys: make([]string, 30000)})
}

// checks holds Check and, where it is refused, Play of a script against what is said outright.
func checks(t *testing.T, what, script string, line int, want api.Errno) {
	t.Helper()
	if n, err := rampart.Check(script); n != line || err != want {
		t.Errorf("P25.1: Check of %s is %d, %d; it should be %d, %d", what, n, int(err), line, int(want))
	}
	text, err := rampart.Play(script)
	if err != want || err != ok && text != "" {
		t.Errorf("P25.1: Play of %s is %s, %d; it should be refused by %d", what, short(text), int(err), int(want))
	}
}

func TestLongScripts(t *testing.T) {
	long := strings.Repeat("#"+strings.Repeat("x", 65534)+"\n", 4)
	checks(t, "262144 bytes", long, 0, ok)
	checks(t, "262145 bytes, the last one a byte 10", long+"\n", 1, errLine)
	checks(t, "262145 bytes, the last one a line without its end", long+"#", 1, errLine)
	checks(t, "262144 bytes without an end", long[:maxText-1]+"x", 0, ok)
	checks(t, "262145 bytes without an end", long[:maxText-1]+"xx", 1, errLine)
	checks(t, "262143 bytes", long[:maxText-1], 0, ok)
	checks(t, "262145 bytes, the second line none", "#\nfrob\n"+long[5:], 1, errLine)
	checks(t, "262144 bytes, the second line none", "#\nfrob\n"+long[7:], 2, errLine)
	checks(t, "262144 bytes in one line", strings.Repeat("#", maxText), 1, errLine)

	checks(t, "4096 ends", strings.Repeat("\n", 4096), 0, ok)
	checks(t, "4097 ends", strings.Repeat("\n", 4097), 1, errLine)
	checks(t, "4095 ends and a line without one", strings.Repeat("\n", 4095)+"drain", 0, ok)
	checks(t, "4096 ends and a line without one", strings.Repeat("\n", 4096)+"drain", 1, errLine)
	checks(t, "4096 ends and a blank", strings.Repeat("\n", 4096)+" ", 1, errLine)
	checks(t, "4096 lines with ends", strings.Repeat("flight\n", 4096), 0, ok)
	checks(t, "4096 lines, the last one none", strings.Repeat("flight\n", 4095)+"frob", 4096, errLine)
	checks(t, "4096 lines, the last one none, with an end", strings.Repeat("flight\n", 4095)+"frob\n", 4096, errLine)
	checks(t, "4097 lines, the third one none", "drain\ndrain\nfrob\n"+strings.Repeat("flight\n", 4094), 1, errLine)
}

func TestFirstLineThatIsNone(t *testing.T) {
	checks(t, "nothing", "", 0, ok)
	checks(t, "an end", "\n", 0, ok)
	checks(t, "a line that is none", "frob", 1, errLine)
	checks(t, "a line that is none, with its end", "frob\n", 1, errLine)
	checks(t, "a line that is none behind others", "drain\n\nfrob", 3, errLine)
	checks(t, "two lines that are none", "drain\n\n\nfrob\ndrain\nfrob\n", 4, errLine)
	checks(t, "a byte 13", "drain\r\ndrain", 1, errLine)
	checks(t, "a line that is too long, behind one at the limit", strings.Repeat("#", maxLine)+"\n"+strings.Repeat("#", maxLine+1), 2, errLine)
	checks(t, "a line that is none behind one that is too long", strings.Repeat("#", maxLine+1)+"\nfrob", 1, errLine)
	checks(t, "one that is too long behind one that is none", "drain\nfrob\n"+strings.Repeat("#", maxLine+1), 2, errLine)
	checks(t, "none of them without a cluster", "drain\nwrite 0 a=1\ncluster 0 0 0 0\nrun 3", 0, ok)
}
