// Package runes is layer 1: see shared/doc/01-runes.md.
package runes

import (
	"strings"

	"carcanet/api"
)

// Rune is a rune, and where it begins (A1).
type Rune struct {
	At int
	R  rune
}

// Kinds of runes (A2).
const (
	None = iota
	Blank
	Line
	Digit
	Letter
	Sign
)

// What a range over a string tells where it can't read a rune, and the bytes
// of that rune where it truly stands in the text.
const (
	unread      = 0xFFFD
	unreadBytes = "\xEF\xBF\xBD"
)

// Decode tells the runes of a text, or the place where it can't be read (A1).
func Decode(s string) ([]Rune, int, api.Errno) {
	var l []Rune
	for at, r := range s {
		// The range goes on behind bytes that are no rune: only the bytes
		// themselves tell these from a text that holds FFFD.
		if r == unread && !strings.HasPrefix(s[at:], unreadBytes) {
			return nil, at, api.ErrText
		}
		l = append(l, Rune{At: at, R: r})
	}
	return l, 0, api.OK
}

// Encode tells the bytes of runes, if all of them may be (A1).
func Encode(l []rune) (string, api.Errno) {
	// Asked ahead, as the conversion writes FFFD for what may not be.
	for _, r := range l {
		if !mayBe(r) {
			return "", api.ErrText
		}
	}
	return string(l), api.OK
}

// Width tells how many bytes write a rune; 0, if it may not be (A1).
func Width(r rune) int {
	switch {
	case !mayBe(r):
		return 0
	case r < 0x80:
		return 1
	case r < 0x800:
		return 2
	case r < 0x10000:
		return 3
	}
	return 4
}

// Kind tells what a rune is good for (A2).
func Kind(r rune) int {
	switch {
	case !mayBe(r):
		return None
	case r == ' ' || r == '\t':
		return Blank
	case r == '\n':
		return Line
	case isDigit(r):
		return Digit
	case isLetter(r):
		return Letter
	case '!' <= r && r <= '~':
		return Sign
	}
	return None
}

func mayBe(r rune) bool {
	return 0 <= r && r < 0xD800 || 0xDFFF < r && r <= 0x10FFFF
}

func isDigit(r rune) bool {
	return '0' <= r && r <= '9'
}

// isLetter is asked only of what may be: from 128 on all of that are letters.
func isLetter(r rune) bool {
	return 'A' <= r && r <= 'Z' || 'a' <= r && r <= 'z' || r == '_' || r >= 128
}
