package sound

import "exitwave/api"

// isDown goes by the kinds and by what tells terms of one kind apart, since a state's terms need not be right.
func isDown(x api.Term, ref int) bool {
	return x.Kind == api.KTuple && len(x.L) == 5 && isAtom(x.L[0], "DOWN") && isRef(x.L[1], ref)
}

func isAtom(x api.Term, s string) bool { return x.Kind == api.KAtom && x.S == s }

func isRef(x api.Term, n int) bool { return x.Kind == api.KRef && x.N == int64(n) }
