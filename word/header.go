package word

import "exitwave/api"

// A header's body has the kind in its lowest bits, below the size.
const (
	kindBits = 4
	kindMask = 1<<kindBits - 1
)

// Header makes the word ahead of what lies in a heap.
func Header(kind, size int) (Word, api.Errno) {
	if !hasHeader(kind) {
		return 0, api.ErrArg
	}
	if size < 0 || size > api.MaxWords {
		return 0, api.ErrLimit
	}
	return join(Head, int64(size)<<kindBits|int64(kind)), api.OK
}

// Header makes the word anew and holds it against this one, so that there is one rule for what is a header.
func (w Word) Header() (kind, size int, is bool) {
	kind, size = int(w.Body()&kindMask), int(w.Body()>>kindBits)
	made, e := Header(kind, size)
	if e != api.OK || made != w {
		return 0, 0, false
	}
	return kind, size, true
}

func hasHeader(kind int) bool {
	switch kind {
	case api.KFloat, api.KRef, api.KFun, api.KTuple:
		return true
	}
	return false
}
