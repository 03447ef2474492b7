package runes

import (
	"math"
	"slices"
	"testing"

	"carcanet/api"
)

// lastRune is the greatest one that may be.
const lastRune = 0x10FFFF

// wrongRunes are numbers that may not be.
var wrongRunes = []rune{math.MinInt32, -0x80, -1, 0xD800, 0xD801, 0xDBFF, 0xDC00, 0xDFFE, 0xDFFF, 0x110000, 0x110041, math.MaxInt32}

// written has runes at the bounds of the widths, with their bytes written out by hand.
var written = []struct {
	r rune
	s string
}{
	{0, "\x00"}, {0x0A, "\x0A"}, {0x61, "\x61"}, {0x7F, "\x7F"},
	{0x80, "\xC2\x80"}, {0xE9, "\xC3\xA9"}, {0x7FF, "\xDF\xBF"},
	{0x800, "\xE0\xA0\x80"}, {0x20AC, "\xE2\x82\xAC"}, {0xD7FF, "\xED\x9F\xBF"}, {0xE000, "\xEE\x80\x80"},
	{0xFFFC, "\xEF\xBF\xBC"}, {0xFFFD, "\xEF\xBF\xBD"}, {0xFFFE, "\xEF\xBF\xBE"}, {0xFFFF, "\xEF\xBF\xBF"},
	{0x10000, "\xF0\x90\x80\x80"}, {0x1D11E, "\xF0\x9D\x84\x9E"}, {lastRune, "\xF4\x8F\xBF\xBF"},
}

// broken has bytes with which no rune begins.
var broken = []string{
	"\x80", "\xBF", "\xFE", "\xFF", "\xF5\x80\x80\x80", "\xF8\x88\x80\x80\x80", // no first byte
	"\xC0\x80", "\xC1\xBF", "\xE0\x80\x80", "\xE0\x80\xAF", "\xE0\x9F\xBF", "\xF0\x80\x80\x80", "\xF0\x8F\xBF\xBF", // longer than need be
	"\xED\xA0\x80", "\xED\xAF\xBF", "\xED\xB0\x80", "\xED\xBF\xBF", // D800 to DFFF
	"\xF4\x90\x80\x80",                                                                 // 110000
	"\xC3", "\xE2", "\xE2\x82", "\xF0", "\xF0\x9D", "\xF0\x9D\x84", "\xEF", "\xEF\xBF", // cut off
	"\xC3\x28", "\xE2\x28\xA1", "\xE2\x82\x28", "\xEF\xBF\x3D", "\xF0\x28\x8C\xBC", "\xF0\x90\x28\xBC", "\xF0\x90\x8C\x28", "\xC3\xC3\xA9", // another byte within
}

func wantRunes(t *testing.T, s string, want []Rune) {
	t.Helper()
	l, at, e := Decode(s)
	if !slices.Equal(l, want) || at != 0 || e != api.OK {
		t.Errorf("Decode(%q) = %v, %d, %v, want %v, 0, %v", s, l, at, e, want, api.OK)
	}
}

func wantBroken(t *testing.T, s string, place int) {
	t.Helper()
	l, at, e := Decode(s)
	if len(l) != 0 || at != place || e != api.ErrText {
		t.Errorf("Decode(%q) = %v, %d, %v, want none, %d, %v", s, l, at, e, place, api.ErrText)
	}
}

func TestA1DecodeTellsRunesAndPlaces(t *testing.T) {
	wantRunes(t, "", nil)
	wantRunes(t, "a\xC3\xA9", []Rune{{0, 'a'}, {1, 0xE9}})
	wantRunes(t, "a\xC3\xA9\xE2\x82\xAC\xF0\x9D\x84\x9Eb", []Rune{{0, 'a'}, {1, 0xE9}, {3, 0x20AC}, {6, 0x1D11E}, {10, 'b'}})
	wantRunes(t, "\xEF\xBF\xBD\xEF\xBF\xBD", []Rune{{0, 0xFFFD}, {3, 0xFFFD}})
	wantRunes(t, "\xEF\xBB\xBFa", []Rune{{0, 0xFEFF}, {3, 'a'}})
	for _, x := range written {
		wantRunes(t, x.s, []Rune{{0, x.r}})
		wantRunes(t, "\xC3\xA9"+x.s+"b", []Rune{{0, 0xE9}, {2, x.r}, {2 + len(x.s), 'b'}})
	}
}

func TestA1DecodeTellsWhereItEnds(t *testing.T) {
	wantBroken(t, "a\xC3", 1)
	wantBroken(t, "\xC0\x80", 0)
	for _, b := range broken {
		wantBroken(t, b, 0)
		for _, x := range written {
			wantBroken(t, x.s+b, len(x.s))
			wantBroken(t, "a"+x.s+b+"\xC3\xA9z", 1+len(x.s))
		}
		wantBroken(t, b+"\xEF\xBF\xBD", 0)
		wantBroken(t, b+b, 0)
	}
}

func TestA1DecodeOfTextsCutOff(t *testing.T) {
	for _, x := range written {
		for cut := 1; cut < len(x.s); cut++ {
			wantBroken(t, x.s[:cut], 0)
			wantBroken(t, x.s+"ab"+x.s[:cut], len(x.s)+2)
		}
	}
}

// slowRune reads one rune by the bits of its bytes, and tells its width; 0, if there is none.
func slowRune(s string) (rune, int) {
	w, r := 0, rune(0)
	switch b := s[0]; {
	case b>>7 == 0:
		w, r = 1, rune(b)
	case b>>5 == 6:
		w, r = 2, rune(b&31)
	case b>>4 == 14:
		w, r = 3, rune(b&15)
	case b>>3 == 30:
		w, r = 4, rune(b&7)
	default:
		return 0, 0
	}
	if w > len(s) {
		return 0, 0
	}
	for i := 1; i < w; i++ {
		if s[i]>>6 != 2 {
			return 0, 0
		}
		r = r<<6 | rune(s[i]&63)
	}
	if slowWidth(r) != w {
		return 0, 0
	}
	return r, w
}

func slowWidth(r rune) int {
	switch {
	case r < 0 || r > lastRune || 0xD800 <= r && r <= 0xDFFF:
		return 0
	case r < 0x80:
		return 1
	case r < 0x800:
		return 2
	case r < 0x10000:
		return 3
	}
	return 4
}

func slowDecode(s string) ([]Rune, int, api.Errno) {
	var l []Rune
	for at := 0; at < len(s); {
		r, w := slowRune(s[at:])
		if w == 0 {
			return nil, at, api.ErrText
		}
		l = append(l, Rune{at, r})
		at += w
	}
	return l, 0, api.OK
}

func TestA1DecodeOfBytesAtTheBounds(t *testing.T) {
	const bounds = "\x00\x61\x7F\x80\x8F\x90\x9F\xA0\xBD\xBF\xC0\xC1\xC2\xDF\xE0\xE1\xED\xEE\xEF\xF0\xF1\xF3\xF4\xF5\xFF"
	rows := []string{""}
	for range 4 {
		var longer []string
		for _, row := range rows {
			for i := range len(bounds) {
				longer = append(longer, row+bounds[i:i+1])
			}
		}
		rows = longer
		for _, s := range rows {
			l, at, e := Decode(s)
			wantL, wantAt, wantE := slowDecode(s)
			if !slices.Equal(l, wantL) || at != wantAt || e != wantE {
				t.Fatalf("Decode(%q) = %v, %d, %v, want %v, %d, %v", s, l, at, e, wantL, wantAt, wantE)
			}
		}
	}
}

func TestA1EncodeWritesRunes(t *testing.T) {
	for _, l := range [][]rune{nil, {}} {
		if s, e := Encode(l); s != "" || e != api.OK {
			t.Errorf("Encode of nothing = %q, %v", s, e)
		}
	}
	var all []rune
	text := ""
	for _, x := range written {
		if s, e := Encode([]rune{x.r}); s != x.s || e != api.OK {
			t.Errorf("Encode(%x) = %q, %v, want %q", x.r, s, e, x.s)
		}
		all = append(all, x.r)
		text += x.s
	}
	if s, e := Encode(all); s != text || e != api.OK {
		t.Errorf("Encode(%x) = %q, %v, want %q", all, s, e, text)
	}
}

func TestA1EncodeRefusesWhatMayNotBe(t *testing.T) {
	for _, r := range wrongRunes {
		for _, l := range [][]rune{{r}, {r, 'a'}, {'a', r}, {0x20AC, r, 'b'}, {r, r}} {
			kept := slices.Clone(l)
			if s, e := Encode(l); s != "" || e != api.ErrText {
				t.Errorf("Encode(%x) = %q, %v, want none, %v", l, s, e, api.ErrText)
			}
			if !slices.Equal(l, kept) {
				t.Errorf("Encode changed %x to %x", kept, l)
			}
		}
	}
}

func TestA1WidthOfAll(t *testing.T) {
	for r := rune(-0x1000); r <= lastRune+0x1000; r++ {
		want := slowWidth(r)
		if got := Width(r); got != want {
			t.Fatalf("Width(%x) = %d, want %d", r, got, want)
		}
	}
	for _, x := range written {
		if got := Width(x.r); got != len(x.s) {
			t.Errorf("Width(%x) = %d, want %d", x.r, got, len(x.s))
		}
	}
	for _, r := range wrongRunes {
		if got := Width(r); got != 0 {
			t.Errorf("Width(%x) = %d, want 0", r, got)
		}
	}
}

func TestA1WhatWasDecodedIsEncodedAsTheText(t *testing.T) {
	var all []rune
	for r := rune(0); r <= lastRune; r++ {
		if r < 0xD800 || r > 0xDFFF {
			all = append(all, r)
		}
	}
	text, e := Encode(all)
	if e != api.OK {
		t.Fatalf("Encode of all runes: %v", e)
	}
	l, at, e := Decode(text)
	if len(l) != len(all) || at != 0 || e != api.OK {
		t.Fatalf("Decode of all runes: %d of %d, %d, %v", len(l), len(all), at, e)
	}
	place := 0
	back := make([]rune, len(l))
	for i, x := range l {
		if x != (Rune{place, all[i]}) {
			t.Fatalf("rune %d: %v, want %x at %d", i, x, all[i], place)
		}
		place += Width(x.R)
		back[i] = x.R
	}
	if place != len(text) {
		t.Errorf("widths add up to %d, the text has %d bytes", place, len(text))
	}
	if s, e := Encode(back); s != text || e != api.OK {
		t.Errorf("what was decoded is encoded otherwise: %v", e)
	}
}

func TestA2TheNumbersOfKinds(t *testing.T) {
	got := [...]int{None, Blank, Line, Digit, Letter, Sign}
	if got != [...]int{0, 1, 2, 3, 4, 5} {
		t.Errorf("kinds are %v", got)
	}
}

// kindsBelow80 has a mark for each number below 80 (to base sixteen): blank b, line l, digit d, letter w, sign s, none a dot.
const kindsBelow80 = ".........bl....................." +
	"bsssssssssssssssddddddddddssssss" +
	"swwwwwwwwwwwwwwwwwwwwwwwwwwssssw" +
	"swwwwwwwwwwwwwwwwwwwwwwwwwwssss."

func TestA2KindOfAll(t *testing.T) {
	marks := map[byte]int{'.': None, 'b': Blank, 'l': Line, 'd': Digit, 'w': Letter, 's': Sign}
	if len(kindsBelow80) != 0x80 {
		t.Fatalf("the table has %d marks", len(kindsBelow80))
	}
	for r := range rune(0x80) {
		if got, want := Kind(r), marks[kindsBelow80[r]]; got != want {
			t.Errorf("Kind(%d) = %d, want %d", r, got, want)
		}
	}
	for r := rune(0x80); r <= lastRune+0x1000; r++ {
		want := Letter
		if r > lastRune || 0xD800 <= r && r <= 0xDFFF {
			want = None
		}
		if got := Kind(r); got != want {
			t.Fatalf("Kind(%x) = %d, want %d", r, got, want)
		}
	}
}

func TestA2KindOfWhatMayNotBe(t *testing.T) {
	for _, r := range wrongRunes {
		if got := Kind(r); got != None {
			t.Errorf("Kind(%x) = %d, want %d", r, got, None)
		}
	}
	for r := rune(-0x1000); r < 0; r++ {
		if got := Kind(r); got != None {
			t.Fatalf("Kind(%d) = %d, want %d", r, got, None)
		}
	}
}
