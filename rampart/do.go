package rampart

import (
	"strconv"

	"rampart/api"
	"rampart/cluster"
)

// turns is how often a drain delivers all that is under way: no request takes more.
const turns = 4

// do does a command: what it tells.
func (s *Shell) do(c command) string {
	if f, isFound := c.(found); isFound {
		return s.found(f.config)
	}
	if s.cluster == nil {
		return line(no)
	}
	switch c := c.(type) {
	case move:
		return s.move(c.step)
	case run:
		return line(ok, strconv.Itoa(s.run(c.times)))
	case drain:
		s.drain()
		return line(ok)
	case tellFlight:
		return flight(s.cluster.Flight())
	case tellAnswers:
		return events(s.answers())
	case tellHistory:
		return events(s.cluster.History())
	case tellState:
		return s.state(c.part)
	}
	return ""
}

// found makes a cluster, in the place of the one that was there.
func (s *Shell) found(config api.Config) string {
	made, err := cluster.New(config)
	if err != api.OK {
		return line(no, strconv.Itoa(int(err)))
	}
	s.leave()
	s.cluster, s.config, s.asked = made, config, make([]int, config.Clients)
	return line(ok)
}

// leave closes the cluster, if there is one; nothing of it is kept.
func (s *Shell) leave() {
	if s.cluster != nil {
		s.cluster.Close()
	}
	s.cluster, s.asked, s.looked = nil, nil, 0
}

// move does a step.
func (s *Shell) move(step api.Step) string {
	if !s.cluster.Do(step) {
		return line(no)
	}
	if step.Kind != api.StWrite && step.Kind != api.StRead {
		return line(ok)
	}
	s.asked[step.Node]++
	return line(ok, strconv.Itoa(s.asked[step.Node]))
}

// run delivers what is under way, in its order, at most so often: how often it did.
func (s *Shell) run(times int) int {
	for done := range times {
		if !s.cluster.Do(api.Step{Kind: api.StDeliver}) {
			return done
		}
	}
	return times
}

// drain lets all that is pending end: see P5 of shared/DOC.md.
func (s *Shell) drain() {
	s.each(s.config.Parts, api.Step{Kind: api.StArm, N: -1})
	s.each(s.config.Parts, api.Step{Kind: api.StFull})
	s.each(s.config.Parts, api.Step{Kind: api.StRestart})
	s.each(s.config.Clients, api.Step{Kind: api.StTick})
	for range turns {
		s.run(len(s.cluster.Flight()))
	}
}

// each does a step at each of so many nodes. Where it may not be done, nothing happens.
func (s *Shell) each(nodes int, step api.Step) {
	for number := range nodes {
		step.Node = number
		s.cluster.Do(step)
	}
}

// answers are those that it didn't tell yet.
func (s *Shell) answers() []api.Event {
	all := s.cluster.History()
	var out []api.Event
	for _, e := range all[s.looked:] {
		if e.Kind == api.EvAnswer {
			out = append(out, e)
		}
	}
	s.looked = len(all)
	return out
}

// state tells of a partition.
func (s *Shell) state(part int) string {
	switch {
	case part >= s.config.Parts:
		return line(no)
	case !s.cluster.Up(part):
		return line(ok, "down")
	}
	return line(ok, "up", strconv.FormatInt(s.cluster.Now(part), 10))
}
