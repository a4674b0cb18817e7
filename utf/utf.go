// Package utf is layer 1: it decodes and encodes UTF-8 (see shared/doc/01-utf.md).
package utf

// Decode returns the code point whose encoding begins at the byte offset at, and the length of the encoding.
func Decode(s string, at int) (int, int, bool) {
	if at < 0 || at >= len(s) {
		return 0, 0, false
	}
	first := int(s[at])
	switch {
	case first < 0x80:
		return first, 1, true
	case first < 0xC0:
		return 0, 0, false
	case first < 0xE0:
		return decodeTail(s[at+1:], first&0x1F, 1, 0x80)
	case first < 0xF0:
		return decodeTail(s[at+1:], first&0x0F, 2, 0x800)
	case first < 0xF8:
		return decodeTail(s[at+1:], first&0x07, 3, 0x10000)
	}
	return 0, 0, false
}

// decodeTail completes the bits of a first byte by those of the n bytes behind it.
// A number below least has a shorter encoding, so that this one is no encoding of it.
func decodeTail(tail string, bits, n, least int) (int, int, bool) {
	if len(tail) < n {
		return 0, 0, false
	}
	for i := range n {
		b := tail[i]
		if b < 0x80 || b > 0xBF {
			return 0, 0, false
		}
		bits = bits<<6 | int(b&0x3F)
	}
	if bits < least || !isCodePoint(bits) {
		return 0, 0, false
	}
	return bits, n + 1, true
}

func isCodePoint(r int) bool {
	switch {
	case r < 0 || r > 0x10FFFF:
		return false
	case r >= 0xD800 && r <= 0xDFFF:
		return false
	}
	return true
}

// Append returns b followed by the encoding of r, in new memory.
func Append(b []byte, r int) ([]byte, bool) {
	if !isCodePoint(r) {
		return nil, false
	}
	out := make([]byte, 0, len(b)+4)
	out = append(out, b...)
	return appendEncoding(out, r), true
}

// appendEncoding appends the encoding of the code point r to b itself.
func appendEncoding(b []byte, r int) []byte {
	switch {
	case r < 0x80:
		return append(b, byte(r))
	case r < 0x800:
		return append(b, 0xC0|byte(r>>6), tailByte(r))
	case r < 0x10000:
		return append(b, 0xE0|byte(r>>12), tailByte(r>>6), tailByte(r))
	}
	return append(b, 0xF0|byte(r>>18), tailByte(r>>12), tailByte(r>>6), tailByte(r))
}

func tailByte(r int) byte {
	return 0x80 | byte(r&0x3F)
}

// Valid reports whether s is a concatenation of encodings of code points.
func Valid(s string) bool {
	_, ok := Count(s)
	return ok
}

// Count returns the number of code points of a valid string.
func Count(s string) (int, bool) {
	count := 0
	for at := 0; at < len(s); {
		_, size, ok := Decode(s, at)
		if !ok {
			return 0, false
		}
		at += size
		count++
	}
	return count, true
}

// Runes returns the code points of a valid string in order.
func Runes(s string) ([]int, bool) {
	var runes []int
	for at := 0; at < len(s); {
		r, size, ok := Decode(s, at)
		if !ok {
			return nil, false
		}
		at += size
		runes = append(runes, r)
	}
	return runes, true
}

// FromRunes returns the concatenation of the encodings of the elements of l.
func FromRunes(l []int) (string, bool) {
	var b []byte
	for _, r := range l {
		if !isCodePoint(r) {
			return "", false
		}
		b = appendEncoding(b, r)
	}
	return string(b), true
}

// Slice returns the code points of a valid string with the indexes from up to, but not including, to.
func Slice(s string, from, to int) (string, bool) {
	var b []byte
	index := 0
	// The scan goes on behind to, as a byte that is not valid there makes the whole string not valid.
	for at := 0; at < len(s); {
		_, size, ok := Decode(s, at)
		if !ok {
			return "", false
		}
		if from <= index && index < to {
			b = append(b, s[at:at+size]...)
		}
		at += size
		index++
	}
	return string(b), true
}
