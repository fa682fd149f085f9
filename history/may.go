package history

import "rampart/api"

// may tells whether an event may be, by itself.
func may(e api.Event) bool {
	if !isClient(e.Client) || e.Txn < 1 {
		return false
	}
	switch e.Kind {
	case api.EvWrite:
		return len(e.Keys) == 0 && isZero(e.Answer)
	case api.EvRead:
		return e.ID == 0 && len(e.Pairs) == 0 && isZero(e.Answer)
	case api.EvAnswer:
		return e.ID == 0 && len(e.Pairs) == 0 && len(e.Keys) == 0 && mayAnswer(e.Answer, e.Txn)
	}
	return false
}

func isZero(a api.Answer) bool {
	return a.Txn == 0 && a.Result == 0 && a.ID == 0 && len(a.Versions) == 0
}

func mayAnswer(a api.Answer, txn int) bool {
	if a.Txn != txn || a.Result < api.RsOK || a.Result > api.RsExhausted {
		return false
	}
	for _, v := range a.Versions {
		if v.ID == 0 && (v.Value != "" || len(v.Keys) != 0) {
			return false
		}
	}
	return true
}
