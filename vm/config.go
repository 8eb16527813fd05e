package vm

import "exitwave/api"

// maxWords: more than those an inbox cannot be made for.
const maxWords = 1 << 24

func mayBe(c api.Config) bool {
	return within(c.Procs, 1, api.MaxProcs) && within(c.Refs, 0, api.MaxRefs) && within(c.Words, 1, maxWords)
}

func within(n, least, most int) bool { return n >= least && n <= most }

// refusal says what New does not take; it wraps the number.
type refusal struct {
	what   string
	number api.Errno
}

func (r refusal) Error() string { return r.what + ": " + r.number.Error() }

func (r refusal) Unwrap() error { return r.number }
