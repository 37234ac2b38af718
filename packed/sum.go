package packed

// polynomial is that of the sum, its bits turned round: the lowest one comes first.
const polynomial = 0xEDB88320

// sum is the sum of a file's bytes.
func sum(b string) uint32 {
	steps := stepsOfBytes()
	crc := ^uint32(0)
	for i := range len(b) {
		crc = steps[byte(crc)^b[i]] ^ crc>>8
	}
	return ^crc
}

// stepsOfBytes has for each byte what eight steps, a bit each, make of it.
func stepsOfBytes() [256]uint32 {
	var steps [256]uint32
	for i := range steps {
		crc := uint32(i)
		for range 8 {
			odd := crc & 1
			crc = crc>>1 ^ odd*polynomial
		}
		steps[i] = crc
	}
	return steps
}
