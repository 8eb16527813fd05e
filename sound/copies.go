package sound

import (
	"slices"

	"exitwave/api"
	"exitwave/term"
)

func copyProc(p api.Proc) api.Proc {
	p.Reason = term.Copy(p.Reason)
	p.Inbox = term.Copy(api.Term{L: p.Inbox}).L
	p.Links = slices.Clone(p.Links)
	p.Origins = slices.Clone(p.Origins)
	p.Targets = slices.Clone(p.Targets)
	p.Names = slices.Clone(p.Names)
	return p
}

func copySignal(x api.Signal) api.Signal {
	x.Term = term.Copy(x.Term)
	return x
}
