// Package tlv is layer 1: see shared/doc/01-tlv.md.
package tlv

import "warder/api"

const (
	numberBits = 0x1f // a tag's number; all of them set would be a number that goes on in further bytes
	long       = 0x80 // in a length's first byte: the other bits tell how many bytes of it follow
	mostLong   = 2    // that may follow; MaxBody needs no more
)

// Put is a value's bytes: a tag, a length, a body.
func Put(tag byte, body []byte) ([]byte, api.Errno) {
	var b []byte
	var wrong api.Errno
	if endless(tag) {
		wrong = api.ErrTag
		goto none
	}
	if len(body) > api.MaxBody {
		wrong = api.ErrTooMany
		goto none
	}
	b = make([]byte, 0, 1+width(len(body))+len(body))
	b = append(b, tag)
	b = appendLength(b, len(body))
	b = append(b, body...)
	return b, api.OK
none:
	return nil, wrong
}

// Head is the tag of a value at a place, and from where to where its body stands.
func Head(b []byte, at int) (byte, int, int, api.Errno) {
	var rest []byte
	var head, size int
	var wrong api.Errno
	if at < 0 || at > len(b) {
		wrong = api.ErrArg
		goto none
	}
	rest = b[at:]
	if len(rest) == 0 {
		wrong = api.ErrEnd
		goto none
	}
	if endless(rest[0]) {
		wrong = api.ErrTag
		goto none
	}
	if len(rest) == 1 {
		wrong = api.ErrEnd
		goto none
	}
	if rest[1] == long || rest[1] > long+mostLong {
		wrong = api.ErrLength
		goto none
	}
	head = 2 + following(rest[1])
	if len(rest) < head {
		wrong = api.ErrEnd
		goto none
	}
	size = length(rest[1:head])
	if 1+width(size) != head {
		wrong = api.ErrLength
		goto none
	}
	// Held against what is left, and not added up first: no sum here is above len(b).
	if size > len(rest)-head {
		wrong = api.ErrEnd
		goto none
	}
	return rest[0], at + head, at + head + size, api.OK
none:
	return 0, 0, 0, wrong
}

// endless: is a tag's number one that may not be?
func endless(tag byte) bool { return tag&numberBits == numberBits }

// width is of how many bytes the length of a body of n bytes is; both ways go by it, so that there is one way alone to write it.
func width(n int) int {
	switch {
	case n < long:
		return 1
	case n <= 0xff:
		return 2
	}
	return 3
}

// appendLength puts the length of a body of n bytes behind b.
func appendLength(b []byte, n int) []byte {
	switch width(n) {
	case 1:
		return append(b, byte(n))
	case 2:
		return append(b, long+1, byte(n))
	}
	return append(b, long+2, byte(n>>8), byte(n))
}

// following is how many bytes of a length follow its first one.
func following(first byte) int {
	if first < long {
		return 0
	}
	return int(first - long)
}

// length is what a whole length's bytes tell, be it as short as it may be or not.
func length(b []byte) int {
	if len(b) == 1 {
		return int(b[0])
	}
	n := 0
	for _, x := range b[1:] {
		n = n<<8 | int(x)
	}
	return n
}
