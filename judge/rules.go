package judge

import "rampart/api"

// rule is one of the four that a told version can break.
type rule interface {
	// word is what Tell calls it.
	word() string
	// breaks tells whether a version of an answer breaks it, and the name of the write that it is held against, if it is one's.
	breaks(p *past, a answer, v api.Version) (other api.ID, broken bool)
}

// rules are all of them, each at the place one below its number.
func rules() []rule {
	return []rule{Forged - 1: forged{}, Aborted - 1: aborted{}, Torn - 1: torn{}, Lost - 1: lost{}}
}

type forged struct{}

func (forged) word() string { return "forged" }

func (forged) breaks(p *past, a answer, v api.Version) (api.ID, bool) {
	if v.ID == 0 {
		return 0, false
	}
	w := p.ahead(v.ID, a.at)
	return 0, w == nil || !w.made(v)
}

type aborted struct{}

func (aborted) word() string { return "aborted" }

func (aborted) breaks(p *past, _ answer, v api.Version) (api.ID, bool) {
	w := p.writes[v.ID]
	return 0, w != nil && w.aborted
}

type torn struct{}

func (torn) word() string { return "torn" }

func (torn) breaks(_ *past, a answer, v api.Version) (api.ID, bool) {
	return above(a.tops[v.Key], v.ID)
}

type lost struct{}

func (lost) word() string { return "lost" }

func (lost) breaks(p *past, a answer, v api.Version) (api.ID, bool) {
	return above(p.doneAhead(v.Key, a.asked), v.ID)
}

// above is the greatest name there is, if the one that is told is below it.
func above(greatest, told api.ID) (api.ID, bool) {
	if greatest > told {
		return greatest, true
	}
	return 0, false
}
