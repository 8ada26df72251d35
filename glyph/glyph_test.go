package glyph

import (
	"math"
	"slices"
	"strings"
	"testing"
)

// The chapter's own words, written out bit by bit, in another way than the program's.

func validRune(r rune) bool {
	return 0 <= r && r <= 0x10FFFF && !(0xD800 <= r && r <= 0xDFFF)
}

func encoding(r rune) string {
	rest := func(shift int) byte { return byte(0x80 | r>>shift&0x3F) }
	switch {
	case r < 0x80:
		return string([]byte{byte(r)})
	case r < 0x800:
		return string([]byte{byte(0xC0 | r>>6), rest(0)})
	case r < 0x10000:
		return string([]byte{byte(0xE0 | r>>12), rest(6), rest(0)})
	}
	return string([]byte{byte(0xF0 | r>>18), rest(12), rest(6), rest(0)})
}

type character struct {
	at, n int
	r     rune
	whole bool
}

// decode reads a rune's bits off n bytes as an encoding of that length would have them; -1: it has not that form.
func decode(s string, n int) rune {
	if len(s) < n {
		return -1
	}
	lead := []byte{0, 0x00, 0xC0, 0xE0, 0xF0}[n]
	payload := []byte{0, 0x7F, 0x1F, 0x0F, 0x07}[n]
	if s[0]&^payload != lead {
		return -1
	}
	r := rune(s[0] & payload)
	for i := 1; i < n; i++ {
		if s[i]&0xC0 != 0x80 {
			return -1
		}
		r = r<<6 | rune(s[i]&0x3F)
	}
	return r
}

// characters divides a string from its first byte on, as the chapter says.
func characters(s string) []character {
	var l []character
	for at := 0; at < len(s); {
		c := character{at, 1, 0xFFFD, false}
		for n := 1; n <= 4; n++ {
			if r := decode(s[at:], n); validRune(r) && encoding(r) == s[at:at+n] {
				c = character{at, n, r, true}
			}
		}
		l = append(l, c)
		at += c.n
	}
	return l
}

// samples: strings at the edges of the forms, and mixtures of them.
func samples() []string {
	parts := []string{
		"", "a", "\x00", "\x7f", "\n", "\u0080", "\u00e9", "\u07ff", "\u0800", "\ud7ff", "\ue000", "\ufffd", "\uffff", "\U00010000", "\U0010ffff",
		"\x80", "\xbf", "\xc0", "\xc1", "\xc2", "\xc3", "\xdf", "\xe0", "\xe2", "\xed", "\xef", "\xf0", "\xf4", "\xf5", "\xf8", "\xfe", "\xff",
		"\xc0\x80", "\xc1\xbf", "\xc3\xc3", "\xc3\x28", "\xe0\x80\x80", "\xe0\x9f\xbf", "\xe2\x82", "\xe2\x82\x28", "\xed\xa0\x80", "\xed\xbf\xbf", "\xef\xbf", "\xef\xbf\xbe",
		"\xf0\x80\x80\x80", "\xf0\x8f\xbf\xbf", "\xf0\x9f\x98", "\xf0\x9f\x98\x28", "\xf4\x90\x80\x80", "\xf5\x80\x80\x80", "\xf8\x88\x80\x80\x80", "\xc3\x80\x80", "\xf0\x9f\x98\x80\x80", "\x80\x80\x80\x80\x80",
	}
	l := slices.Clone(parts)
	for _, a := range parts {
		for _, b := range parts {
			l = append(l, a+b, "x"+a+b, a+"y"+b, a+b+"z")
		}
	}
	return append(l, "plain text, a line\nand another", "gr\u00fc\u00dfe \u4f60\u597d \U0001f600!", strings.Repeat("\u00e9\xff", 3000), strings.Repeat("\x80", 5000))
}

// shortStrings: all strings of at most five bytes over those that tell the forms apart.
func shortStrings(each func(s string)) {
	bytes := []string{"a", "\x80", "\x9f", "\xbf", "\xc3", "\xe0", "\xed", "\xf0", "\xf4", "\xff"}
	var walk func(s string)
	walk = func(s string) {
		each(s)
		if len(s) == 5 {
			return
		}
		for _, b := range bytes {
			walk(s + b)
		}
	}
	walk("")
}

// eachString: the samples but for the long ones, and all short strings.
func eachString(each func(s string)) {
	for _, s := range samples() {
		if len(s) < 100 {
			each(s)
		}
	}
	shortStrings(each)
}

func starts(l []character) []int {
	var all []int
	for _, c := range l {
		all = append(all, c.at)
	}
	return all
}

// P2.1

func TestCountStartsValid(t *testing.T) {
	for _, c := range []struct {
		s      string
		starts []int
		valid  bool
	}{
		{"", nil, true},
		{"a", []int{0}, true},
		{"abc", []int{0, 1, 2}, true},
		{"\x00", []int{0}, true},
		{"\u00e9", []int{0}, true},
		{"a\u00e9b", []int{0, 1, 3}, true},
		{"\u20ac\U0001f600x", []int{0, 3, 7}, true},
		{"a\xc3\xa9\xff", []int{0, 1, 3}, false},
		{"\xff", []int{0}, false},
		{"\xc0\x80", []int{0, 1}, false},
		{"\xed\xa0\x80", []int{0, 1, 2}, false},
		{"\xf4\x90\x80\x80", []int{0, 1, 2, 3}, false},
		{"\xe2\x82", []int{0, 1}, false},
		{"\xe2\x82\xac", []int{0}, true},
		{"\xe2\x82a", []int{0, 1, 2}, false},
		{"\xf0\x9f\x98", []int{0, 1, 2}, false},
		{"\xc3\xa9\xa9", []int{0, 2}, false},
		{"\xf8\x88\x80\x80\x80", []int{0, 1, 2, 3, 4}, false},
		{"\U0010ffff", []int{0}, true},
		{"\ud7ff\ue000", []int{0, 3}, true},
	} {
		if n := Count(c.s); n != len(c.starts) {
			t.Errorf("Count(%q) = %d", c.s, n)
		}
		if l := Starts(c.s); !slices.Equal(l, c.starts) {
			t.Errorf("Starts(%q) = %v", c.s, l)
		}
		if Valid(c.s) != c.valid {
			t.Errorf("Valid(%q) = %v", c.s, !c.valid)
		}
	}
}

func TestValidTakesTheRuneOfBrokenBytes(t *testing.T) {
	for s, want := range map[string]bool{
		"\ufffd":               true,
		"a\ufffdb\ufffd":       true,
		"\ufffd\xff":           false,
		"\xff\ufffd":           false,
		"\xef\ufffd":           false,
		"\ufffd\xef":           false,
		"\ufffd\xef\xbf":       false,
		"\ufffd\xbd":           false,
		"\xef\xbf\xef\xbf":     false,
		"\xef\xbf\xef\xbf\xbd": false,
	} {
		if Valid(s) != want {
			t.Errorf("Valid(%q) = %v", s, !want)
		}
	}
}

func TestDivisionOfAllStrings(t *testing.T) {
	check := func(s string) {
		l := characters(s)
		whole := true
		for _, c := range l {
			whole = whole && c.whole
		}
		if Count(s) != len(l) || !slices.Equal(Starts(s), starts(l)) || Valid(s) != whole {
			t.Errorf("%.40q: %d, %v, %v", s, Count(s), Starts(s), Valid(s))
		}
	}
	for _, s := range samples() {
		check(s)
	}
	shortStrings(check)
}

func TestEachRuneIsOneCharacter(t *testing.T) {
	for r := rune(0); r <= 0x10FFFF; r++ {
		if !validRune(r) {
			continue
		}
		s := encoding(r)
		got, n := At(s, len(s)-1)
		if Count(s) != 1 || !Valid(s) || got != r || n != len(s) {
			t.Fatalf("%x: Count %d, Valid %v, At %x, %d", r, Count(s), Valid(s), got, n)
		}
	}
}

func TestNoSurrogateIsWhole(t *testing.T) {
	for r := rune(0xD800); r <= 0xDFFF; r++ {
		if s := encoding(r); Count(s) != 3 || Valid(s) {
			t.Fatalf("%x: Count %d, Valid %v", r, Count(s), Valid(s))
		}
	}
}

func TestStartsAnswersNewMemory(t *testing.T) {
	a := Starts("ab")
	a[0] = 99
	if b := Starts("ab"); !slices.Equal(b, []int{0, 1}) {
		t.Errorf("a second Starts = %v", b)
	}
}

// P2.2

func TestMovesAtExamples(t *testing.T) {
	for _, c := range []struct {
		s                     string
		at, align, next, prev int
		r                     rune
		n                     int
	}{
		{"", 0, 0, 0, 0, 0, 0},
		{"", -1, 0, 0, 0, 0, 0},
		{"", 1, 0, 0, 0, 0, 0},
		{"a\xc3\xa9\xff", -5, 0, 1, 0, 'a', 1},
		{"a\xc3\xa9\xff", 0, 0, 1, 0, 'a', 1},
		{"a\xc3\xa9\xff", 1, 1, 3, 0, 0xE9, 2},
		{"a\xc3\xa9\xff", 2, 1, 3, 0, 0xE9, 2},
		{"a\xc3\xa9\xff", 3, 3, 4, 1, 0xFFFD, 1},
		{"a\xc3\xa9\xff", 4, 4, 4, 3, 0, 0},
		{"a\xc3\xa9\xff", 99, 4, 4, 3, 0, 0},
		{"x\xe2\x82\xacy", 3, 1, 4, 0, 0x20AC, 3},
		{"x\xf0\x9f\x98\x80y", 4, 1, 5, 0, 0x1F600, 4},
		{"x\xf0\x9f\x98\x80y", 5, 5, 6, 1, 'y', 1},
		{"\xf0\x9f\x98\x80\x80", 4, 4, 5, 0, 0xFFFD, 1},
		{"\xf0\x9f\x98y", 2, 2, 3, 1, 0xFFFD, 1},
		{"\xc0\x80", 1, 1, 2, 0, 0xFFFD, 1},
		{"\xed\xa0\x80", 2, 2, 3, 1, 0xFFFD, 1},
		{"\xef\xbf\xbd", 2, 0, 3, 0, 0xFFFD, 3},
		{"\x00a", 0, 0, 1, 0, 0, 1},
		{"a\nb", 1, 1, 2, 0, '\n', 1},
		{"\u00e9", 2, 2, 2, 0, 0, 0},
	} {
		r, n := At(c.s, c.at)
		align, next, prev := Align(c.s, c.at), Next(c.s, c.at), Prev(c.s, c.at)
		if align != c.align || next != c.next || prev != c.prev || r != c.r || n != c.n {
			t.Errorf("%q at %d: Align %d, Next %d, Prev %d, At %x, %d", c.s, c.at, align, next, prev, r, n)
		}
	}
}

// checkMoves holds the moves from each offset of a string, and from beyond its ends, against its characters.
func checkMoves(t *testing.T, s string) {
	l := characters(s)
	for i, c := range l {
		prev := 0
		if i > 0 {
			prev = l[i-1].at
		}
		offsets := []int{c.at}
		for k := 1; k < c.n; k++ {
			offsets = append(offsets, c.at+k)
		}
		if i == 0 {
			offsets = append(offsets, -1, -2, math.MinInt)
		}
		for _, at := range offsets {
			r, n := At(s, at)
			if Align(s, at) != c.at || Next(s, at) != c.at+c.n || Prev(s, at) != prev || r != c.r || n != c.n {
				t.Fatalf("%.40q at %d: Align %d, Next %d, Prev %d, At %x, %d", s, at, Align(s, at), Next(s, at), Prev(s, at), r, n)
			}
		}
	}
	prev := 0
	if len(l) > 0 {
		prev = l[len(l)-1].at
	}
	for _, at := range []int{len(s), len(s) + 1, len(s) + 4, math.MaxInt} {
		r, n := At(s, at)
		if Align(s, at) != len(s) || Next(s, at) != len(s) || Prev(s, at) != prev || r != 0 || n != 0 {
			t.Fatalf("%.40q at %d: Align %d, Next %d, Prev %d, At %x, %d", s, at, Align(s, at), Next(s, at), Prev(s, at), r, n)
		}
	}
}

func TestMovesInAllStrings(t *testing.T) {
	for _, s := range samples() {
		checkMoves(t, s)
	}
	shortStrings(func(s string) { checkMoves(t, s) })
}

func TestMovesInTheEmptyString(t *testing.T) {
	for _, at := range []int{math.MinInt, -1, 0, 1, math.MaxInt} {
		r, n := At("", at)
		if Align("", at) != 0 || Next("", at) != 0 || Prev("", at) != 0 || r != 0 || n != 0 {
			t.Errorf("at %d", at)
		}
	}
}

// P2.3

func TestClass(t *testing.T) {
	for r, want := range map[rune]int{
		' ': 0, '\t': 0,
		'\n': 3,
		'a':  1, 'z': 1, 'A': 1, 'Z': 1, '0': 1, '9': 1, '_': 1, '7': 1, 'm': 1,
		128: 1, 0xA0: 1, 0xE9: 1, 0x3000: 1, 0x2028: 1, 0xD7FF: 1, 0xD800: 1, 0xDFFF: 1, 0xFFFC: 1, 0xFFFE: 1, 0xFFFF: 1, 0x10000: 1, 0x10FFFF: 1,
		0xFFFD: 2, 0: 2, 1: 2, 8: 2, 11: 2, 12: 2, 13: 2, 27: 2, 31: 2, 33: 2, 127: 2,
		'/': 2, ':': 2, '@': 2, '[': 2, '^': 2, '`': 2, '{': 2, '.': 2, '#': 2, '-': 2,
		-1: 2, -65: 2, 0x110000: 2, 0x110061: 2, math.MaxInt32: 2, math.MinInt32: 2,
	} {
		if c := Class(r); c != want {
			t.Errorf("Class(%x) = %d", r, c)
		}
	}
}

func TestClassOfEachNumber(t *testing.T) {
	const words = "0123456789abcdefghijklmnopqrstuvwxyzABCDEFGHIJKLMNOPQRSTUVWXYZ_"
	for r := rune(-300); r <= 0x110400; r++ {
		want := 2
		switch {
		case r == 32 || r == 9:
			want = 0
		case r == 10:
			want = 3
		case r >= 0 && r < 128 && strings.IndexByte(words, byte(r)) >= 0:
			want = 1
		case r >= 128 && r <= 0x10FFFF && r != 0xFFFD:
			want = 1
		}
		if c := Class(r); c != want {
			t.Fatalf("Class(%x) = %d", r, c)
		}
	}
}

// P2.4

func TestEncode(t *testing.T) {
	for _, c := range []struct {
		l    []rune
		want string
	}{
		{nil, ""},
		{[]rune{}, ""},
		{[]rune{0}, "\x00"},
		{[]rune{97, 0xD800}, "a\xef\xbf\xbd"},
		{[]rune{0x7F, 0x80}, "\x7f\xc2\x80"},
		{[]rune{0x7FF, 0x800}, "\xdf\xbf\xe0\xa0\x80"},
		{[]rune{0xD7FF, 0xE000}, "\xed\x9f\xbf\xee\x80\x80"},
		{[]rune{0xDFFF}, "\xef\xbf\xbd"},
		{[]rune{0xFFFD}, "\xef\xbf\xbd"},
		{[]rune{0xFFFF, 0x10000}, "\xef\xbf\xbf\xf0\x90\x80\x80"},
		{[]rune{0x10FFFF}, "\xf4\x8f\xbf\xbf"},
		{[]rune{0x110000}, "\xef\xbf\xbd"},
		{[]rune{-1, 'x', math.MaxInt32, math.MinInt32}, "\xef\xbf\xbdx\xef\xbf\xbd\xef\xbf\xbd"},
	} {
		given := slices.Clone(c.l)
		if s := Encode(given); s != c.want {
			t.Errorf("Encode(%x) = %x", c.l, s)
		}
		if !slices.Equal(given, c.l) {
			t.Errorf("Encode changed its list: %x", given)
		}
	}
}

func TestEncodeEachNumber(t *testing.T) {
	for r := rune(-300); r <= 0x110400; r++ {
		want := "\xef\xbf\xbd"
		if validRune(r) {
			want = encoding(r)
		}
		if s := Encode([]rune{r}); s != want {
			t.Fatalf("Encode(%x) = %x", r, s)
		}
	}
}

func TestEncodeKeepsNothing(t *testing.T) {
	l := []rune{'a', 'b'}
	s := Encode(l)
	l[0] = 'x'
	if s != "ab" {
		t.Errorf("the string became %q", s)
	}
}

// P2.5

func TestCovers(t *testing.T) {
	eachString(func(s string) {
		end := 0
		for _, at := range Starts(s) {
			if at != end {
				t.Fatalf("%q: a character at %d, the one before ended at %d", s, at, end)
			}
			_, n := At(s, at)
			if n < 1 || n > 4 {
				t.Fatalf("%q at %d: %d bytes", s, at, n)
			}
			end = at + n
		}
		if end != len(s) {
			t.Fatalf("%q: the characters end at %d", s, end)
		}
	})
}

func TestNextAndPrevGoThroughAllCharacters(t *testing.T) {
	eachString(func(s string) {
		l := Starts(s)
		for i, at := range l {
			next, prev := len(s), 0
			if i+1 < len(l) {
				next = l[i+1]
			}
			if i > 0 {
				prev = l[i-1]
			}
			if Align(s, at) != at || Next(s, at) != next || Prev(s, at) != prev {
				t.Fatalf("%q at %d: Align %d, Next %d, Prev %d", s, at, Align(s, at), Next(s, at), Prev(s, at))
			}
		}
	})
}

// P2.6

func TestJoins(t *testing.T) {
	l := samples()
	for i, s := range l {
		if !Valid(s) {
			continue
		}
		for _, u := range []string{l[(i*7+3)%len(l)], l[(i*31+11)%len(l)], "\x80", "\xa9b", "\xff", s} {
			want := Starts(s)
			for _, at := range Starts(u) {
				want = append(want, len(s)+at)
			}
			if x := Starts(s + u); !slices.Equal(x, want) {
				t.Fatalf("%.40q and %.40q: %v", s, u, x)
			}
		}
	}
}

func TestBrokenEndMayJoin(t *testing.T) {
	if Count("\xc3") != 1 || Count("\xa9") != 1 || Count("\xc3"+"\xa9") != 1 {
		t.Error("two broken characters that are one encoding together")
	}
}

// P2.7

func TestBack(t *testing.T) {
	valid := 0
	eachString(func(s string) {
		var runes []rune
		for _, at := range Starts(s) {
			r, _ := At(s, at)
			runes = append(runes, r)
		}
		if same := Encode(runes) == s; same != Valid(s) {
			t.Fatalf("%q: Valid %v, but Encode of its runes is %q", s, Valid(s), Encode(runes))
		}
		if Valid(s) {
			valid++
		}
	})
	if valid < 100 {
		t.Errorf("only %d strings without a broken character", valid)
	}
}
