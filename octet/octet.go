// Package octet is layer 1: sets of bytes, and bytes as signs: see shared/doc/01-octet.md.
package octet

import (
	"math/bits"
	"strings"
)

// Set is some of the 256 bytes: b is in it, if of the word b / 64 the bit b modulo 64 is 1.
type Set [4]uint64

// Of is the set of these.
func Of(bytes ...byte) Set {
	var s Set
	for _, b := range bytes {
		s.add(b)
	}
	return s
}

// Span is the set of all bytes from one to another one: none, if that is less.
func Span(from, to byte) Set {
	var s Set
	// A range over a number below 1 has no rounds: so the span is empty.
	for i := range int(to) - int(from) + 1 {
		s.add(from + byte(i))
	}
	return s
}

func (s *Set) add(b byte) { s[b/64] |= 1 << (b % 64) }

// Class is a class's bytes; false of no class.
func Class(name string) (Set, bool) {
	switch name {
	case "lower":
		return lower(), true
	case "upper":
		return upper(), true
	case "alpha":
		return alpha(), true
	case "digit":
		return digit(), true
	case "alnum":
		return alnum(), true
	case "xdigit":
		return digit().Or(Span('A', 'F')).Or(Span('a', 'f')), true
	case "blank":
		return blank(), true
	case "space":
		return blank().Or(Span(0x0a, 0x0d)), true
	case "cntrl":
		return Span(0, 0x1f).Or(Of(0x7f)), true
	case "print":
		return Span(0x20, 0x7e), true
	case "graph":
		return graph(), true
	case "punct":
		return graph().And(alnum().Not()), true
	}
	return Set{}, false
}

func lower() Set { return Span('a', 'z') }
func upper() Set { return Span('A', 'Z') }
func alpha() Set { return lower().Or(upper()) }
func digit() Set { return Span('0', '9') }
func alnum() Set { return alpha().Or(digit()) }
func blank() Set { return Of(' ', '\t') }
func graph() Set { return Span(0x21, 0x7e) }

// Has tells whether a byte is in it.
func (s Set) Has(b byte) bool { return s[b/64]>>(b%64)&1 == 1 }

// And is the set of the bytes in both.
func (s Set) And(t Set) Set {
	for i := range s {
		s[i] &= t[i]
	}
	return s
}

// Or is the set of the bytes in one of both at least.
func (s Set) Or(t Set) Set {
	for i := range s {
		s[i] |= t[i]
	}
	return s
}

// Not is the set of the bytes not in it.
func (s Set) Not() Set {
	for i := range s {
		s[i] = ^s[i]
	}
	return s
}

// Len is how many bytes are in it.
func (s Set) Len() int {
	n := 0
	for _, word := range s {
		n += bits.OnesCount64(word)
	}
	return n
}

// Least is the least byte in it; false, if there is none.
func (s Set) Least() (byte, bool) {
	for i, word := range s {
		if word != 0 {
			return byte(64*i + bits.TrailingZeros64(word)), true
		}
	}
	return 0, false
}

// Spans are the longest runs of bytes in it, as their least and greatest, rising.
func (s Set) Spans() [][2]byte {
	var spans [][2]byte
	inside := false
	for i := range 256 {
		b := byte(i)
		has := s.Has(b)
		switch {
		case has && inside:
			spans[len(spans)-1][1] = b
		case has:
			spans = append(spans, [2]byte{b, b})
		}
		inside = has
	}
	return spans
}

// Wide is a text of bytes as a text of signs, one for each byte: that of its number.
func Wide(s string) string {
	var w strings.Builder
	for i := range len(s) {
		w.WriteRune(rune(s[i]))
	}
	return w.String()
}

// Narrow is the text of bytes of which a text of signs is the wide one; false, if there is none.
func Narrow(w string) (string, bool) {
	var s strings.Builder
	for _, sign := range w {
		// What isn't UTF-8 comes as the sign FFFD: that is above 255 too.
		if sign > 0xff {
			return "", false
		}
		s.WriteByte(byte(sign))
	}
	return s.String(), true
}
