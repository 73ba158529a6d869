package journal

// integer is all integer types.
type integer interface {
	~int | ~int8 | ~int16 | ~int32 | ~int64 | ~uint | ~uint8 | ~uint16 | ~uint32 | ~uint64 | ~uintptr
}

// bitsOf tells how many bits a number of the type has: a one that is moved up
// falls out behind so many steps.
func bitsOf[N integer]() int {
	bits := 0
	for one := N(1); one != 0; one <<= 1 {
		bits++
	}
	return bits
}

// appendNumber writes a number with all bytes of its type, the highest first.
func appendNumber[N integer](b []byte, n N) []byte {
	for low := bitsOf[N]() - 8; low >= 0; low -= 8 {
		b = append(b, byte(n>>low))
	}
	return b
}

// takeNumber reads what appendNumber has written of a number of the same type.
func takeNumber[N integer](c *cursor) N {
	var n uint64 // wide enough for all of them; in N itself a byte can't be moved up
	for _, b := range c.take(uint64(bitsOf[N]() / 8)) {
		n = n<<8 | uint64(b)
	}
	return N(n)
}
