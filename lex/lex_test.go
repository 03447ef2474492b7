package lex

import (
	"math/big"
	"regexp"
	"slices"
	"strings"
	"testing"
	"unicode/utf8"

	"carcanet/api"
)

// Runes of two, three and four bytes.
const (
	two   = "\xC3\xA9"
	three = "\xE2\x82\xAC"
	four  = "\xF0\x9D\x84\x9E"
)

func wantTokens(t *testing.T, s string, want ...Token) {
	t.Helper()
	l, at, e := Lex(s)
	if !slices.Equal(l, want) || at != 0 || e != api.OK {
		t.Errorf("Lex(%q) = %v, %d, %v, want %v, 0, %v", s, l, at, e, want, api.OK)
	}
}

func wantWrong(t *testing.T, s string, place int, want api.Errno) {
	t.Helper()
	l, at, e := Lex(s)
	if len(l) != 0 || at != place || e != want {
		t.Errorf("Lex(%q) = %v, %d, %v, want none, %d, %v", s, l, at, e, place, want)
	}
}

func wantText(t *testing.T, s, want string) {
	t.Helper()
	l, _, e := Lex(s)
	if got := Text(l); got != want || e != api.OK {
		t.Errorf("Text of %q = %q, %v, want %q", s, got, e, want)
	}
}

func TestB1KindsOfTokens(t *testing.T) {
	if Word != 1 || Number != 2 || Sign != 3 || End != 4 {
		t.Errorf("kinds %d %d %d %d, want 1 2 3 4", Word, Number, Sign, End)
	}
}

func TestB1WordsNumbersSigns(t *testing.T) {
	wantTokens(t, "ab 07-x", Token{Word, 0, "ab", 0}, Token{Number, 3, "07", 7}, Token{Sign, 5, "-", 0}, Token{Word, 6, "x", 0})
	wantTokens(t, "a\tb", Token{Word, 0, "a", 0}, Token{Word, 2, "b", 0})
	wantTokens(t, "1 2", Token{Number, 0, "1", 1}, Token{Number, 2, "2", 2})
	wantTokens(t, "a1b2", Token{Word, 0, "a1b2", 0})
	wantTokens(t, "_1 _", Token{Word, 0, "_1", 0}, Token{Word, 3, "_", 0})
	wantTokens(t, "12ab3", Token{Number, 0, "12", 12}, Token{Word, 2, "ab3", 0})
	wantTokens(t, "Zz9", Token{Word, 0, "Zz9", 0})
	wantTokens(t, "--", Token{Sign, 0, "-", 0}, Token{Sign, 1, "-", 0})
	wantTokens(t, "x.1", Token{Word, 0, "x", 0}, Token{Sign, 1, ".", 0}, Token{Number, 2, "1", 1})
	wantTokens(t, "-5", Token{Sign, 0, "-", 0}, Token{Number, 1, "5", 5})
}

func TestB1EachSignIsOneByItself(t *testing.T) {
	const signs = "!\"$%&'()*+,-./:;<=>?@[\\]^`{|}~"
	for i, r := range signs {
		s := string(r)
		wantTokens(t, s, Token{Sign, 0, s, 0})
		wantTokens(t, "a"+s+s+"1", Token{Word, 0, "a", 0}, Token{Sign, 1, s, 0}, Token{Sign, 2, s, 0}, Token{Number, 3, "1", 1})
		if l, _, _ := Lex(signs); len(l) != len(signs) || l[i] != (Token{Sign, i, s, 0}) {
			t.Errorf("Lex(%q) = %v", signs, l)
		}
	}
}

func TestB1BlanksAndEmptyTexts(t *testing.T) {
	for _, s := range []string{"", " ", "\t", " \t \t", "#", "##", "#a", " # b c", "# \x00\r\x7F"} {
		wantTokens(t, s)
	}
	wantTokens(t, "  a\t", Token{Word, 2, "a", 0})
}

func TestB1EndsOfLines(t *testing.T) {
	wantTokens(t, "\n", Token{Kind: End})
	wantTokens(t, "\n\n", Token{Kind: End}, Token{Kind: End, At: 1})
	wantTokens(t, "a\n b", Token{Word, 0, "a", 0}, Token{Kind: End, At: 1}, Token{Word, 3, "b", 0})
	wantTokens(t, "1\n2\n", Token{Number, 0, "1", 1}, Token{Kind: End, At: 1}, Token{Number, 2, "2", 2}, Token{Kind: End, At: 3})
}

func TestB1Remarks(t *testing.T) {
	wantTokens(t, "#a\nb", Token{Kind: End, At: 2}, Token{Word, 3, "b", 0})
	wantTokens(t, "#\n", Token{Kind: End, At: 1})
	wantTokens(t, "a#b\n#c\nd#", Token{Word, 0, "a", 0}, Token{Kind: End, At: 3}, Token{Kind: End, At: 6}, Token{Word, 7, "d", 0})
	wantTokens(t, "1#2#3", Token{Number, 0, "1", 1})
	wantTokens(t, "-# "+two+three+"\n-", Token{Sign, 0, "-", 0}, Token{Kind: End, At: 8}, Token{Sign, 9, "-", 0})
	// Whatever is wrong elsewhere is not wrong in a remark.
	wantTokens(t, "#\r\x00\x7F 1234567890 "+strings.Repeat("a", 40)+"\n", Token{Kind: End, At: 56})
}

func TestB1NumbersAtTheBounds(t *testing.T) {
	for s, n := range map[string]int{"0": 0, "9": 9, "00": 0, "010": 10, "000000000": 0, "000000001": 1, "100000000": 100000000, "123456789": 123456789, "999999999": 999999999} {
		wantTokens(t, s, Token{Number, 0, s, n})
		wantTokens(t, s+"a", Token{Number, 0, s, n}, Token{Word, len(s), "a", 0})
		wantTokens(t, two+" "+s, Token{Word, 0, two, 0}, Token{Number, 3, s, n})
	}
	for _, s := range []string{"0000000000", "0000000001", "1000000000", "1234567890", "9999999999", "18446744073709551617", strings.Repeat("0", 1000), strings.Repeat("9", 1000)} {
		wantWrong(t, s, 0, api.ErrRange)
		wantWrong(t, "a\n"+two+" -"+s+"b", 6, api.ErrRange)
	}
	wantTokens(t, "1234567 12345678", Token{Number, 0, "1234567", 1234567}, Token{Number, 8, "12345678", 12345678})
}

func TestB1WordsAtTheBounds(t *testing.T) {
	for _, s := range []string{
		strings.Repeat("a", 32), "z" + strings.Repeat("0", 31), strings.Repeat(two, 16), strings.Repeat(four, 8), strings.Repeat(three, 10) + two, "aa" + strings.Repeat(three, 10),
	} {
		wantTokens(t, s, Token{Word, 0, s, 0})
		wantTokens(t, "1"+s+" b", Token{Number, 0, "1", 1}, Token{Word, 1, s, 0}, Token{Word, 34, "b", 0})
		wantWrong(t, s+"a", 0, api.ErrLimit)
		wantWrong(t, s+"0", 0, api.ErrLimit)
		wantWrong(t, s+two, 0, api.ErrLimit)
		wantWrong(t, three+" 1"+s+"_", 5, api.ErrLimit)
	}
	wantWrong(t, "a"+strings.Repeat(two, 16), 0, api.ErrLimit)
	wantWrong(t, strings.Repeat(three, 11), 0, api.ErrLimit)
	// Digits behind a Letter are the word's, however many they are.
	wantTokens(t, "a12345678901", Token{Word, 0, "a12345678901", 0})
}

func TestB1RunesOfMoreThanOneByte(t *testing.T) {
	wantTokens(t, "a"+two+three+four+"1 b-2", Token{Word, 0, "a" + two + three + four + "1", 0}, Token{Word, 12, "b", 0}, Token{Sign, 13, "-", 0}, Token{Number, 14, "2", 2})
	wantTokens(t, "1"+four, Token{Number, 0, "1", 1}, Token{Word, 1, four, 0})
	wantTokens(t, "\xEF\xBF\xBD \xC2\x80", Token{Word, 0, "\xEF\xBF\xBD", 0}, Token{Word, 4, "\xC2\x80", 0})
	// What Unicode calls a blank, a digit or a line is none here.
	wantTokens(t, "\xC2\xA0\xD9\xA1\xE2\x80\xA8", Token{Word, 0, "\xC2\xA0\xD9\xA1\xE2\x80\xA8", 0})
}

func TestB1RunesThatMayNotStandThere(t *testing.T) {
	for b := range 128 {
		if b >= ' ' && b < 127 || b == '\t' || b == '\n' {
			continue
		}
		s := string(rune(b))
		wantWrong(t, s, 0, api.ErrSyntax)
		wantWrong(t, "a"+s, 1, api.ErrSyntax)
		wantWrong(t, "1"+s, 1, api.ErrSyntax)
		wantWrong(t, " "+two+" -"+s+s+"#", 5, api.ErrSyntax)
	}
	wantWrong(t, "a\r\n", 1, api.ErrSyntax)
	wantWrong(t, "#\r\n\r", 3, api.ErrSyntax)
}

func TestB1WhatIsNoTextGoesAhead(t *testing.T) {
	for _, b := range []string{"\x80", "\xC3", "\xC0\x80", "\xED\xA0\x80", "\xF4\x90\x80\x80", "\xE2\x82", "\xFF"} {
		wantWrong(t, b, 0, api.ErrText)
		wantWrong(t, "a"+b, 1, api.ErrText)
		wantWrong(t, "# "+b, 2, api.ErrText)
		wantWrong(t, "\r "+two+b+"\n", 4, api.ErrText)
		wantWrong(t, "1234567890 "+b, 11, api.ErrText)
		wantWrong(t, strings.Repeat("a", 33)+b+b, 33, api.ErrText)
	}
}

func TestB1TheFirstFromTheLeft(t *testing.T) {
	long, great := strings.Repeat("b", 33), "1234567890"
	wantWrong(t, "a "+long+" "+great+" \r", 2, api.ErrLimit)
	wantWrong(t, "a "+great+" "+long+" \r", 2, api.ErrRange)
	wantWrong(t, "a \r"+great+" "+long, 2, api.ErrSyntax)
	wantWrong(t, great+long, 0, api.ErrRange)
	wantWrong(t, "9"+long+"\x00", 1, api.ErrLimit)
	wantWrong(t, great+"\x00", 0, api.ErrRange)
	wantWrong(t, "\x00\x01", 0, api.ErrSyntax)
}

// The pieces of a text, as patterns.
var (
	passed = regexp.MustCompile(`^([ \t]+|#[^\n]*)`)
	pieces = []*regexp.Regexp{
		Word:   regexp.MustCompile(`^[A-Za-z_\x{80}-\x{10FFFF}][0-9A-Za-z_\x{80}-\x{10FFFF}]*`),
		Number: regexp.MustCompile(`^[0-9]+`),
		Sign:   regexp.MustCompile(`^[!-/:-@\[-^` + "`" + `{-~]`),
		End:    regexp.MustCompile(`^\n`),
	}
)

// slowToken reads the token with which s begins; its Kind is 0, if there is none.
func slowToken(s string) Token {
	for kind := Word; kind <= End; kind++ {
		if text := pieces[kind].FindString(s); text != "" {
			return Token{Kind: kind, Text: text}
		}
	}
	return Token{}
}

func slowLex(s string) ([]Token, int, api.Errno) {
	for at := range s {
		if r, w := utf8.DecodeRuneInString(s[at:]); r == utf8.RuneError && w == 1 {
			return nil, at, api.ErrText
		}
	}
	var l []Token
	for at := 0; at < len(s); {
		if p := passed.FindString(s[at:]); p != "" {
			at += len(p)
			continue
		}
		x := slowToken(s[at:])
		x.At = at
		at += len(x.Text)
		switch {
		case x.Kind == 0:
			return nil, at, api.ErrSyntax
		case x.Kind == Number && len(x.Text) > 9:
			return nil, x.At, api.ErrRange
		case x.Kind == Word && len(x.Text) > 32:
			return nil, x.At, api.ErrLimit
		case x.Kind == End:
			x.Text = ""
		case x.Kind == Number:
			n, _ := new(big.Int).SetString(x.Text, 10)
			x.N = int(n.Int64())
		}
		l = append(l, x)
	}
	return l, 0, api.OK
}

// alike tells whether Lex of the second told what the first are, but for the places.
func alike(a, b []Token) bool {
	return slices.EqualFunc(a, b, func(x, y Token) bool {
		return x.Kind == y.Kind && x.Text == y.Text && x.N == y.N
	})
}

// holdAgainstSlow tells of one text whether B1 and B2 hold.
func holdAgainstSlow(t *testing.T, s string) {
	t.Helper()
	l, at, e := Lex(s)
	wl, wat, we := slowLex(s)
	if !slices.Equal(l, wl) || at != wat || e != we {
		t.Errorf("Lex(%q) = %v, %d, %v, want %v, %d, %v", s, l, at, e, wl, wat, we)
	}
	text := Text(l)
	again, _, e := Lex(text)
	if !alike(l, again) || e != api.OK {
		t.Errorf("of %q: tokens %v, Text %q, again %v, %v", s, l, text, again, e)
	}
	if Text(again) != text {
		t.Errorf("of %q: Text %q, then %q", s, text, Text(again))
	}
}

func TestB1B2AllShortTexts(t *testing.T) {
	parts := []string{"a", "_", "1", "0", "-", "#", " ", "\t", "\n", "\r", "\x7F", two, four, "\x80"}
	rows := []string{""}
	for range 4 {
		var longer []string
		for _, row := range rows {
			holdAgainstSlow(t, row)
			for _, p := range parts {
				longer = append(longer, row+p)
			}
		}
		rows = longer
	}
	for _, row := range rows {
		holdAgainstSlow(t, row)
	}
}

func TestB1B2LongPieces(t *testing.T) {
	parts := []string{strings.Repeat("1", 8), "1", "0", strings.Repeat("a", 30), two, "b", "-", "\n", " ", "#"}
	rows := []string{""}
	for range 5 {
		var longer []string
		for _, row := range rows {
			for _, p := range parts {
				longer = append(longer, row+p)
			}
		}
		rows = longer
		for _, row := range rows {
			holdAgainstSlow(t, row)
		}
	}
}

func FuzzB1B2(f *testing.F) {
	for _, s := range []string{"", "ab 07-x", "a # b\n1234567890", two + "\n\n-", "\r\x80"} {
		f.Add(s)
	}
	f.Fuzz(holdAgainstSlow)
}

func TestB1OfTheGreatestText(t *testing.T) {
	s := strings.Repeat("ab 07-x\n", api.MaxText/8)
	l, at, e := Lex(s)
	if len(l) != api.MaxText/8*5 || at != 0 || e != api.OK {
		t.Fatalf("%d tokens, %d, %v", len(l), at, e)
	}
	if last := l[len(l)-1]; last != (Token{Kind: End, At: len(s) - 1}) {
		t.Errorf("last %v", last)
	}
	wantWrong(t, strings.Repeat("7", api.MaxText), 0, api.ErrRange)
	wantWrong(t, strings.Repeat("a", api.MaxText), 0, api.ErrLimit)
	wantTokens(t, strings.Repeat("#", api.MaxText))
}

func TestB2Text(t *testing.T) {
	wantText(t, "", "")
	wantText(t, " # nothing", "")
	wantText(t, "ab 07-x", "ab 07 - x")
	wantText(t, "  a\t\tb  ", "a b")
	wantText(t, "12ab", "12 ab")
	wantText(t, "a-1", "a - 1")
	wantText(t, "--", "- -")
	wantText(t, "007 0", "007 0")
	wantText(t, two+" "+four, two+" "+four)
}

func TestB2TextOfEnds(t *testing.T) {
	wantText(t, "\n", "\n")
	wantText(t, " \n \n ", "\n\n")
	wantText(t, "a \n b", "a\nb")
	wantText(t, "\na", "\na")
	wantText(t, "a\n", "a\n")
	wantText(t, "a # c\n# d\n\n1 -# e", "a\n\n\n1 -")
}

func TestB2LeavesTokensAsTheyWere(t *testing.T) {
	l, _, _ := Lex("a 1\n- b")
	kept := slices.Clone(l)
	first := Text(l)
	if !slices.Equal(l, kept) {
		t.Errorf("tokens %v, want %v", l, kept)
	}
	if again := Text(l); again != first {
		t.Errorf("Text %q, then %q", first, again)
	}
}

func TestB2EndsWhateverItIsHanded(t *testing.T) {
	for _, l := range [][]Token{nil, {}, {{}}, {{Kind: -1, At: -1, N: -1}, {Kind: 99, Text: "\x80"}}, {{Kind: End, Text: "x"}, {Kind: Word}}} {
		Text(l)
	}
}
