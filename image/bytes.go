package image

const (
	sumFirst = 0xcbf29ce484222325
	sumTimes = 0x100000001b3
)

// sumOf is the sum of bytes. Each step is one to one, so bytes of which just one is another have another sum.
func sumOf(b string) uint64 {
	h := uint64(sumFirst)
	for i := range len(b) {
		h = (h ^ uint64(b[i])) * sumTimes
	}
	return h
}

// numberOf is what bytes say, the lowest first.
func numberOf(b string) uint64 {
	n := uint64(0)
	for i := range len(b) {
		n |= uint64(b[i]) << (8 * i)
	}
	return n
}
