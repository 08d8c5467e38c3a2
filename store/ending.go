package store

import "tephra/api"

// ending tells of that in which it is embedded whether it is over.
type ending struct {
	over bool
}

// Over tells whether it is over.
func (o *ending) Over() bool {
	return o.over
}

// unlessOver does what is to be done, unless it is over.
func (o *ending) unlessOver(do func() api.Errno) api.Errno {
	if o.over {
		return api.ErrDown
	}
	e := do()
	// Nothing but an act answers it.
	o.over = e == api.ErrDown
	return e
}
