package heap

import "exitwave/word"

// Lay puts words behind those that there are, also such as Store and Collect never lay.
func (h *Heap) Lay(l ...word.Word) { h.words = append(h.words, l...) }
