package ledger

import "strongbox/api"

const mostLabel = 100

// label is what a script is called.
type label struct{ text string }

// Lock sets whether a place is locked.
func (l *Ledger) Lock(p api.OutPoint, on bool) {
	if on {
		l.locks.put(p)
	} else {
		delete(l.locks, p)
	}
}

// Locked reports whether a place is locked.
func (l *Ledger) Locked(p api.OutPoint) bool { return l.locks.has(p) }

// Label sets the label of a script, or removes it if there is no text.
func (l *Ledger) Label(script []byte, s string) api.Errno {
	if len(s) > mostLabel {
		return api.ErrSize
	}
	if s == "" {
		delete(l.labels, string(script))
	} else {
		l.labels[string(script)] = label{s}
	}
	return api.OK
}

// Labeled returns the label of a script.
func (l *Ledger) Labeled(script []byte) string { return l.labels[string(script)].text }
