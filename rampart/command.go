package rampart

import "rampart/api"

// command is what a line asks for: one of the types below.
type command interface{ isCommand() }

type (
	found       struct{ config api.Config }
	move        struct{ step api.Step }
	run         struct{ times int }
	drain       struct{}
	tellFlight  struct{}
	tellAnswers struct{}
	tellHistory struct{}
	tellState   struct{ part int }
)

func (found) isCommand()       {}
func (move) isCommand()        {}
func (run) isCommand()         {}
func (drain) isCommand()       {}
func (tellFlight) isCommand()  {}
func (tellAnswers) isCommand() {}
func (tellHistory) isCommand() {}
func (tellState) isCommand()   {}

// form is a command of numbers alone: of a step its kind, and which of a step's numbers it has, in this order.
type form struct {
	word string
	kind int
	node bool
	n    bool
	k    bool
}

var forms = [...]form{
	{"tick", api.StTick, true, false, false},
	{"stop", api.StStop, true, false, false},
	{"give", api.StGive, true, true, false},
	{"deliver", api.StDeliver, false, true, false},
	{"lose", api.StLose, false, true, false},
	{"twin", api.StTwin, false, true, false},
	{"part", api.StPart, true, false, false},
	{"crash", api.StCrash, true, true, false},
	{"restart", api.StRestart, true, false, false},
	{"full", api.StFull, true, true, false},
	{"arm", api.StArm, true, true, true},
	{"run", 0, false, true, false},
	{"drain", 0, false, false, false},
	{"flight", 0, false, false, false},
	{"answers", 0, false, false, false},
	{"history", 0, false, false, false},
	{"state", 0, true, false, false},
}

// command is what the form with these numbers asks for.
func (f form) command(s api.Step) command {
	switch f.word {
	case "run":
		return run{times: s.N}
	case "drain":
		return drain{}
	case "flight":
		return tellFlight{}
	case "answers":
		return tellAnswers{}
	case "history":
		return tellHistory{}
	case "state":
		return tellState{part: s.Node}
	}
	return move{step: s}
}
