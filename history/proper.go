package history

import "rampart/api"

// past is what of the events so far the next one hangs on.
type past struct {
	clients [api.MaxClients]clientPast
}

// clientPast is a client's requests, that with Txn 1 first, and the greatest ID of its writes.
type clientPast struct {
	requests []request
	top      api.ID
}

// request is the place of a request in the list, and whether it is answered.
type request struct {
	at       int
	answered bool
}

// goesOn takes in the event at a place, which may be, and tells whether it can stand behind those ahead of it (and a refused write ahead of its answer).
func (p *past) goesOn(l []api.Event, at int) bool {
	c := &p.clients[l[at].Client]
	switch l[at].Kind {
	case api.EvWrite:
		return c.asks(l, at) && c.names(l, at)
	case api.EvRead:
		return c.asks(l, at)
	}
	return c.answers(l, at)
}

// asks takes in a request: whether its number is the next one.
func (c *clientPast) asks(l []api.Event, at int) bool {
	c.requests = append(c.requests, request{at: at})
	return l[at].Txn == len(c.requests)
}

// names takes in a write's ID: whether the write can have it.
func (c *clientPast) names(l []api.Event, at int) bool {
	id := l[at].ID
	if id == 0 {
		return at+1 < len(l) && answersTo(l[at+1], l[at])
	}
	rises := id > c.top
	c.top = id
	return rises && id >= 65536 && id%65536 == api.ID(l[at].Client)
}

func answersTo(e, asked api.Event) bool {
	return e.Kind == api.EvAnswer && e.Client == asked.Client && e.Txn == asked.Txn
}

// answers takes in an answer: whether its request stands ahead of it without one, and can be answered so.
func (c *clientPast) answers(l []api.Event, at int) bool {
	txn := l[at].Txn
	if txn > len(c.requests) || c.requests[txn-1].answered {
		return false
	}
	r := &c.requests[txn-1]
	r.answered = true
	if l[r.at].Kind == api.EvWrite {
		return endsWrite(l[at].Answer, l[r.at].ID)
	}
	return endsRead(l[at].Answer, l[r.at].Keys, at == r.at+1)
}

// endsWrite tells whether a write of that ID can be answered so.
func endsWrite(a api.Answer, id api.ID) bool {
	if a.ID != id || len(a.Versions) != 0 {
		return false
	}
	switch a.Result {
	case api.RsInvalid, api.RsExhausted:
		return id == 0
	case api.RsOK, api.RsAborted, api.RsUnknown:
		return id != 0
	}
	return false
}

// endsRead tells whether a read of those keys can be answered so; next: right behind it.
func endsRead(a api.Answer, keys []string, next bool) bool {
	if a.ID != 0 {
		return false
	}
	switch a.Result {
	case api.RsOK:
		return areFor(a.Versions, keys)
	case api.RsStale, api.RsAborted:
		return len(a.Versions) == 0
	case api.RsInvalid:
		return next && len(a.Versions) == 0
	}
	return false
}

// areFor tells whether there is one version for each of the keys, in their order.
func areFor(l []api.Version, keys []string) bool {
	if len(l) != len(keys) {
		return false
	}
	for i, v := range l {
		if v.Key != keys[i] {
			return false
		}
	}
	return true
}
