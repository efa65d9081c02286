package pattern

// class is a set of bytes: each is the index of whether it is in the set.
type class [256]bool

// add adds the bytes from first to last.
func (s *class) add(first, last byte) {
	for c := int(first); c <= int(last); c++ {
		s[c] = true
	}
}

// invert replaces the set by the bytes that are not in it.
func (s *class) invert() {
	for c := range s {
		s[c] = !s[c]
	}
}

// isEmpty reports whether no byte is in the set.
func (s *class) isEmpty() bool {
	return *s == class{}
}

// first returns the least byte of a set that is not empty.
func (s *class) first() byte {
	c := 0
	for !s[c] {
		c++
	}
	return byte(c)
}
