package judge

import (
	"cmp"
	"slices"

	"rampart/api"
)

// past is what a proper history tells of its requests.
type past struct {
	asked  [api.MaxClients][]int // the places of each client's requests, that with Txn 1 first
	writes map[api.ID]*write
	done   map[string][]mark // by key: what the writes that were answered RsOK wrote, by the places of the answers
}

// mark says that from behind a place on, top is the greatest name of a key's writes that were answered RsOK.
type mark struct {
	at  int
	top api.ID
}

// answer is a read's answer: its place, that of the request, and for each key the greatest name told in it, of a write ahead of it that wrote the key.
type answer struct {
	at    int
	asked int
	tops  map[string]api.ID
}

func pastOf(h []api.Event) *past {
	p := &past{writes: map[api.ID]*write{}, done: map[string][]mark{}}
	for at, e := range h {
		if e.Kind == api.EvAnswer {
			p.end(at, e.Answer)
			continue
		}
		p.asked[e.Client] = append(p.asked[e.Client], at)
		if e.ID != 0 {
			p.writes[e.ID] = writeOf(at, e)
		}
	}
	return p
}

// end takes in an answer, if it is one to a write. (Of others the ID is 0, which no write has.)
func (p *past) end(at int, a api.Answer) {
	w := p.writes[a.ID]
	if w == nil {
		return
	}
	w.aborted = a.Result == api.RsAborted
	if a.Result != api.RsOK {
		return
	}
	for _, key := range w.keys {
		marks := p.done[key]
		// Only what rises is marked, so that the last mark ahead of a place has the greatest name.
		if len(marks) == 0 || w.id > marks[len(marks)-1].top {
			p.done[key] = append(marks, mark{at: at, top: w.id})
		}
	}
}

// ahead is the write of that name, if it stands ahead of a place; nil: there is none.
func (p *past) ahead(id api.ID, at int) *write {
	if w := p.writes[id]; w != nil && w.at < at {
		return w
	}
	return nil
}

// doneAhead is the greatest name of a key's writes that were answered RsOK ahead of a place; 0: there is none.
func (p *past) doneAhead(key string, at int) api.ID {
	marks := p.done[key]
	n, _ := slices.BinarySearchFunc(marks, at, func(m mark, at int) int { return cmp.Compare(m.at, at) })
	if n == 0 {
		return 0
	}
	return marks[n-1].top
}

func (p *past) answer(at int, e api.Event) answer {
	a := answer{at: at, asked: p.asked[e.Client][e.Txn-1], tops: map[string]api.ID{}}
	keys := keysOf(e.Answer.Versions)
	for _, id := range namesOf(e.Answer.Versions) {
		w := p.ahead(id, at)
		if w == nil {
			continue
		}
		// Names rise, so that the greatest one is put down last.
		for _, key := range w.among(keys) {
			a.tops[key] = id
		}
	}
	return a
}

// keysOf are the keys of versions, rising.
func keysOf(l []api.Version) []string {
	var keys []string
	for _, v := range l {
		keys = append(keys, v.Key)
	}
	return rising(keys)
}

// namesOf are the names of versions, rising.
func namesOf(l []api.Version) []api.ID {
	var names []api.ID
	for _, v := range l {
		names = append(names, v.ID)
	}
	return rising(names)
}

// rising puts a list in order, in its own memory, with nothing twice.
func rising[T cmp.Ordered](l []T) []T {
	slices.Sort(l)
	return slices.Compact(l)
}
