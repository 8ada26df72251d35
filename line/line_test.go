package line

import (
	"math"
	"slices"
	"strings"
	"testing"
	"unicode/utf8"

	"bureau/api"
)

// The chapter's own words, written out in another way than the program's: the lines and their characters as one table.

// char is a character of a line.
type char struct {
	at, n int
	r     rune
}

// row is a line: its bytes without the newline, and its characters.
type row struct {
	from, to int
	chars    []char
}

// rows are the lines of a string.
func rows(s string) []row {
	var all []row
	from := 0
	for _, bytes := range strings.Split(s, "\n") {
		l := row{from: from, to: from + len(bytes)}
		for at := 0; at < len(bytes); {
			r, n := utf8.DecodeRuneInString(bytes[at:])
			l.chars = append(l.chars, char{from + at, n, r})
			at += n
		}
		all = append(all, l)
		from = l.to + 1
	}
	return all
}

// last is the line's last character, as the chapter says.
func (l row) last() int {
	if len(l.chars) == 0 {
		return l.from
	}
	return l.chars[len(l.chars)-1].at
}

// place is where a character of the line begins.
func (l row) place(col int) int {
	col = max(col, 0)
	if col >= len(l.chars) {
		return l.last()
	}
	return l.chars[col].at
}

// first is where the line's first character begins that is not blank.
func (l row) first() int {
	for _, c := range l.chars {
		if c.r != ' ' && c.r != '\t' {
			return c.at
		}
	}
	return l.last()
}

// clamped is the line with a number that may be too small or too great.
func clamped(all []row, n int) row {
	if n < 0 {
		return all[0]
	}
	if n >= len(all) {
		return all[len(all)-1]
	}
	return all[n]
}

// at finds the number of an offset's line, and how many of its characters begin before the offset's own character.
func at(all []row, offset int) (n, col int) {
	offset = max(offset, 0)
	for i, l := range all {
		if offset > l.to && i+1 < len(all) {
			continue
		}
		for _, c := range l.chars {
			if c.at+c.n <= offset {
				col++
			}
		}
		return i, col
	}
	return 0, 0
}

// samples are strings with all sorts of lines and characters.
func samples() []string {
	parts := []string{
		"", "\n", "\n\n", "a", "ab\n", " ", "\t", " \n", "\t \tx", "x ", "\u00e9", "\u20ac\n", "\U0001f600", "\ufffd", "\u00a0", "\u3000", "\u2028", "\u0085",
		"\x00", "\r\n", "\v\f", "\x7f", "\xff", "\x80\x80", "\xc3", "\xa9", "\xc0\x8a", "\xe2\x82", "\xe2\x82\n", "\xf0\x9f\x98\n\x80", "\xed\xa0\x80", "#\n#",
	}
	l := slices.Clone(parts)
	for _, a := range parts {
		for _, b := range parts {
			l = append(l, a+b, a+"\n"+b, " "+a+" \n"+b+"\n")
		}
	}
	return append(l, "plain text, a line\n\tand another\n\n  a fourth one", "gr\u00fc\u00dfe\n \u4f60\u597d \U0001f600!\n")
}

// eachString gives the samples, and all strings of at most five bytes over those that tell lines and characters apart.
func eachString(each func(s string)) {
	for _, s := range samples() {
		each(s)
	}
	var walk func(s string)
	walk = func(s string) {
		each(s)
		if len(s) == 5 {
			return
		}
		for _, b := range []string{"\n", "a", " ", "\xc3", "\xa9", "\xe2", "\xff"} {
			walk(s + b)
		}
	}
	walk("")
}

// around are the numbers from -2 to n + 2, and the ends of int.
func around(n int) []int {
	l := []int{math.MinInt, math.MinInt + 1, math.MaxInt - 1, math.MaxInt}
	for i := -2; i <= n+2; i++ {
		l = append(l, i)
	}
	return l
}

const example = "ab\n\n c"

// P6.1

func TestCount(t *testing.T) {
	for _, c := range []struct {
		s    string
		want int
	}{
		{"", 1}, {"a", 1}, {"\n", 2}, {"a\n", 2}, {"\na", 2}, {"a\nb", 2}, {"\n\n", 3}, {"\r\n", 2}, {"\r", 1}, {"\v\f\u0085\u2028", 1}, {"\xc3\n\xa9", 2}, {"\xc0\x8a", 1},
		{example, 3}, {strings.Repeat("\n", 5000), 5001}, {strings.Repeat("a", 5000), 1},
	} {
		if n := Count(c.s); n != c.want {
			t.Errorf("Count(%.20q) = %d", c.s, n)
		}
	}
}

func TestOf(t *testing.T) {
	for _, c := range []struct {
		s        string
		at, want int
	}{
		{"", 0, 0}, {"", -1, 0}, {"", 1, 0}, {"a", 1, 0}, {"\n", 0, 0}, {"\n", 1, 1}, {"\n", 2, 1}, {"\n", -1, 0},
		{example, -1, 0}, {example, 0, 0}, {example, 2, 0}, {example, 3, 1}, {example, 4, 2}, {example, 5, 2}, {example, 6, 2}, {example, 7, 2},
		{example, math.MinInt, 0}, {example, math.MaxInt, 2}, {"\u00e9\nb", 1, 0}, {"\u00e9\nb", 2, 0}, {"\u00e9\nb", 3, 1},
		{strings.Repeat("\n", 5000), 4999, 4999},
	} {
		if n := Of(c.s, c.at); n != c.want {
			t.Errorf("Of(%.20q, %d) = %d", c.s, c.at, n)
		}
	}
}

func TestCountAndOfAllStrings(t *testing.T) {
	eachString(func(s string) {
		all := rows(s)
		if n := Count(s); n != len(all) {
			t.Fatalf("Count(%q) = %d", s, n)
		}
		for _, offset := range around(len(s)) {
			if n, _ := at(all, offset); Of(s, offset) != n {
				t.Fatalf("Of(%q, %d) = %d, not %d", s, offset, Of(s, offset), n)
			}
		}
	})
}

// P6.2

func TestBounds(t *testing.T) {
	for _, c := range []struct {
		s           string
		n, from, to int
		e           api.Errno
	}{
		{"", 0, 0, 0, api.OK}, {"", 1, 0, 0, api.ErrArg}, {"", -1, 0, 0, api.ErrArg},
		{"ab", 0, 0, 2, api.OK}, {"ab", 1, 0, 0, api.ErrArg},
		{"\n", 0, 0, 0, api.OK}, {"\n", 1, 1, 1, api.OK}, {"\n", 2, 0, 0, api.ErrArg},
		{"ab\n", 0, 0, 2, api.OK}, {"ab\n", 1, 3, 3, api.OK},
		{example, 0, 0, 2, api.OK}, {example, 1, 3, 3, api.OK}, {example, 2, 4, 6, api.OK}, {example, 3, 0, 0, api.ErrArg},
		{example, -1, 0, 0, api.ErrArg}, {example, math.MinInt, 0, 0, api.ErrArg}, {example, math.MaxInt, 0, 0, api.ErrArg},
		{"a\r\nb", 0, 0, 2, api.OK}, {"\u00e9\n\xff", 1, 3, 4, api.OK},
	} {
		if from, to, e := Bounds(c.s, c.n); from != c.from || to != c.to || e != c.e {
			t.Errorf("Bounds(%q, %d) = %d, %d, %d", c.s, c.n, from, to, e)
		}
	}
}

func TestBoundsOfAllStrings(t *testing.T) {
	eachString(func(s string) {
		all := rows(s)
		for _, n := range around(len(all)) {
			var want row
			wantError := api.ErrArg
			if 0 <= n && n < len(all) {
				want, wantError = all[n], api.OK
			}
			if from, to, e := Bounds(s, n); from != want.from || to != want.to || e != wantError {
				t.Fatalf("Bounds(%q, %d) = %d, %d, %d", s, n, from, to, e)
			}
		}
	})
}

// P6.3

func TestCol(t *testing.T) {
	for _, c := range []struct {
		s        string
		at, want int
	}{
		{"", 0, 0}, {"", -1, 0}, {"", 1, 0}, {"ab", 0, 0}, {"ab", 1, 1}, {"ab", 2, 2}, {"ab", 99, 2}, {"ab", -99, 0},
		{example, 0, 0}, {example, 1, 1}, {example, 2, 2}, {example, 3, 0}, {example, 4, 0}, {example, 5, 1}, {example, 6, 2},
		{example, math.MinInt, 0}, {example, math.MaxInt, 2},
		{"ab\n", 2, 2}, {"ab\n", 3, 0}, {"ab\n", 4, 0}, {"\n", 0, 0}, {"\n", 1, 0},
		{"x\u20acy\n", 1, 1}, {"x\u20acy\n", 2, 1}, {"x\u20acy\n", 3, 1}, {"x\u20acy\n", 4, 2}, {"x\u20acy\n", 5, 3}, // within a character
		{"a\n\u00e9b", 2, 0}, {"a\n\u00e9b", 3, 0}, {"a\n\u00e9b", 4, 1}, {"a\n\u00e9b", 5, 2},
		{"\xe2\x82\nb", 1, 1}, {"\xe2\x82\nb", 2, 2}, {"\xc3\n\xa9z", 3, 1}, // broken characters
	} {
		if n := Col(c.s, c.at); n != c.want {
			t.Errorf("Col(%q, %d) = %d", c.s, c.at, n)
		}
	}
}

func TestPlace(t *testing.T) {
	for _, c := range []struct {
		s            string
		n, col, want int
	}{
		{"", 0, 0, 0}, {"", 5, 5, 0}, {"", -5, -5, 0}, {"ab", 0, 0, 0}, {"ab", 0, 1, 1}, {"ab", 0, 2, 1}, {"ab", 0, 3, 1},
		{"\n", 0, 0, 0}, {"\n", 0, 1, 0}, {"\n", 1, 0, 1}, {"\n", 1, 1, 1}, {"ab\n", 1, 1, 3}, {"ab\n", 9, 9, 3},
		{example, 0, 9, 1}, {example, 9, 0, 4}, {example, -1, -1, 0}, {example, -1, 1, 1}, {example, 2, -1, 4}, {example, 1, 3, 3}, {example, 3, 1, 5},
		{example, math.MinInt, math.MinInt, 0}, {example, math.MinInt, math.MaxInt, 1}, {example, math.MaxInt, math.MaxInt, 5}, {example, math.MaxInt, math.MinInt, 4},
		{"x\u20acy\n", 0, 1, 1}, {"x\u20acy\n", 0, 2, 4}, {"x\u20acy\n", 0, 3, 4}, {"x\u20ac\ny", 0, 2, 1}, {"x\u20ac", 0, 2, 1},
		{"a\n\xe2\x82", 1, 1, 3}, {"a\n\xe2\x82", 1, 2, 3}, {"\xc3\n\xa9", 0, 1, 0}, {"\xc3\n\xa9", 1, 1, 2},
	} {
		if at := Place(c.s, c.n, c.col); at != c.want {
			t.Errorf("Place(%q, %d, %d) = %d", c.s, c.n, c.col, at)
		}
	}
}

func TestFirst(t *testing.T) {
	for _, c := range []struct {
		s       string
		n, want int
	}{
		{"", 0, 0}, {"", 1, 0}, {"", -1, 0}, {"a", 0, 0}, {" a", 0, 1}, {"\ta", 0, 1}, {" \t a b", 0, 3}, {"a b", 0, 0},
		{" ", 0, 0}, {"  ", 0, 1}, {"\t\t\n", 0, 1}, {"  \nx", 0, 1}, {"  \nx", 1, 3}, {"\n", 0, 0}, {"\n", 1, 1}, {" \n\na", 1, 2},
		{example, 0, 0}, {example, 1, 3}, {example, 2, 5}, {example, 3, 5}, {example, -1, 0}, {example, math.MinInt, 0}, {example, math.MaxInt, 5},
		{" \u00e9", 0, 1}, {" \xa9", 0, 1}, {" \xff ", 0, 1}, {"  \u00a0a", 0, 2}, {" \u3000a", 0, 1}, {" \r\n", 0, 1}, {" \va", 0, 1}, {" \x00", 0, 1}, {" \ufffd", 0, 1}, {" #", 0, 1},
	} {
		if at := First(c.s, c.n); at != c.want {
			t.Errorf("First(%q, %d) = %d", c.s, c.n, at)
		}
	}
}

func TestColPlaceFirstOfAllStrings(t *testing.T) {
	eachString(func(s string) {
		all := rows(s)
		for _, offset := range around(len(s)) {
			if _, col := at(all, offset); Col(s, offset) != col {
				t.Fatalf("Col(%q, %d) = %d, not %d", s, offset, Col(s, offset), col)
			}
		}
		for _, n := range around(len(all)) {
			l := clamped(all, n)
			if place := First(s, n); place != l.first() {
				t.Fatalf("First(%q, %d) = %d, not %d", s, n, place, l.first())
			}
			for _, col := range around(len(l.chars)) {
				if place := Place(s, n, col); place != l.place(col) {
					t.Fatalf("Place(%q, %d, %d) = %d, not %d", s, n, col, place, l.place(col))
				}
			}
		}
	})
}

// P6.4

func TestWhole(t *testing.T) {
	for _, c := range []struct {
		s              string
		a, b, from, to int
		e              api.Errno
	}{
		{"", 0, 0, 0, 0, api.OK}, {"", 0, 1, 0, 0, api.ErrArg}, {"", 1, 1, 0, 0, api.ErrArg}, {"", -1, 0, 0, 0, api.ErrArg},
		{"ab", 0, 0, 0, 2, api.OK}, {"\n", 0, 0, 0, 1, api.OK}, {"\n", 1, 1, 0, 1, api.OK}, {"\n", 0, 1, 0, 1, api.OK},
		{"ab\n", 0, 0, 0, 3, api.OK}, {"ab\n", 1, 1, 2, 3, api.OK}, {"ab\n", 0, 1, 0, 3, api.OK},
		{"\nab", 0, 0, 0, 1, api.OK}, {"\nab", 1, 1, 0, 3, api.OK}, {"\nab", 0, 1, 0, 3, api.OK},
		{"\n\n", 0, 0, 0, 1, api.OK}, {"\n\n", 1, 1, 1, 2, api.OK}, {"\n\n", 2, 2, 1, 2, api.OK}, {"\n\n", 1, 2, 0, 2, api.OK}, {"\n\n", 0, 1, 0, 2, api.OK},
		{example, 0, 0, 0, 3, api.OK}, {example, 1, 1, 3, 4, api.OK}, {example, 2, 2, 3, 6, api.OK},
		{example, 0, 1, 0, 4, api.OK}, {example, 1, 2, 2, 6, api.OK}, {example, 0, 2, 0, 6, api.OK},
		{example, -1, 0, 0, 0, api.ErrArg}, {example, -1, -1, 0, 0, api.ErrArg}, {example, 0, -1, 0, 0, api.ErrArg}, {example, 1, 0, 0, 0, api.ErrArg},
		{example, 2, 1, 0, 0, api.ErrArg}, {example, 0, 3, 0, 0, api.ErrArg}, {example, 3, 3, 0, 0, api.ErrArg}, {example, 3, 2, 0, 0, api.ErrArg},
		{example, math.MinInt, math.MaxInt, 0, 0, api.ErrArg}, {example, 0, math.MaxInt, 0, 0, api.ErrArg}, {example, math.MinInt, 2, 0, 0, api.ErrArg},
	} {
		if from, to, e := Whole(c.s, c.a, c.b); from != c.from || to != c.to || e != c.e {
			t.Errorf("Whole(%q, %d, %d) = %d, %d, %d", c.s, c.a, c.b, from, to, e)
		}
	}
}

// whole is the range of the lines a to b, case by case.
func whole(s string, all []row, a, b int) (from, to int, e api.Errno) {
	last := len(all) - 1
	switch {
	case a < 0 || a > last || b < 0 || b > last || b < a:
		return 0, 0, api.ErrArg
	case b != last:
		return all[a].from, all[b+1].from, api.OK
	case a != 0:
		return all[a-1].to, len(s), api.OK
	}
	return 0, len(s), api.OK
}

func TestWholeOfAllStrings(t *testing.T) {
	eachString(func(s string) {
		all := rows(s)
		for _, a := range around(len(all)) {
			for _, b := range around(len(all)) {
				from, to, e := Whole(s, a, b)
				wantFrom, wantTo, wantError := whole(s, all, a, b)
				if from != wantFrom || to != wantTo || e != wantError {
					t.Fatalf("Whole(%q, %d, %d) = %d, %d, %d", s, a, b, from, to, e)
				}
			}
		}
	})
}

// P6.5

func TestBack(t *testing.T) {
	eachString(func(s string) {
		for offset := 0; offset < len(s); {
			r, n := utf8.DecodeRuneInString(s[offset:])
			for inside := offset; r != '\n' && inside < offset+n; inside++ {
				if place := Place(s, Of(s, inside), Col(s, inside)); place != offset {
					t.Fatalf("%q: the character at %d, asked for at %d, is found at %d", s, offset, inside, place)
				}
			}
			offset += n
		}
	})
}

// P6.6

func TestCut(t *testing.T) {
	eachString(func(s string) {
		lines := strings.Split(s, "\n")
		for a := range lines {
			for b := a; b < len(lines); b++ {
				from, to, e := Whole(s, a, b)
				if e != api.OK {
					t.Fatalf("Whole(%q, %d, %d): %d", s, a, b, e)
				}
				want := slices.Concat(lines[:a], lines[b+1:])
				if len(want) == 0 {
					want = []string{""}
				}
				if left := s[:from] + s[to:]; !slices.Equal(strings.Split(left, "\n"), want) {
					t.Fatalf("%q without the lines %d to %d is %q", s, a, b, left)
				}
			}
		}
	})
}

// Long strings: a text of layer 4 has at most 4096 bytes, but a string may have more.

func TestLongStrings(t *testing.T) {
	const n = 300000
	s := strings.Repeat("\u00e9 \n", n)
	if Count(s) != n+1 || Of(s, len(s)) != n || Place(s, n, 5) != 4*n || Place(s, n-1, 5) != 4*n-2 || First(s, n-1) != 4*n-4 {
		t.Error("many lines")
	}
	if from, to, e := Bounds(s, n-1); from != 4*n-4 || to != 4*n-1 || e != api.OK {
		t.Errorf("Bounds of many lines: %d, %d, %d", from, to, e)
	}
	wide := strings.Repeat(" \u20ac", n)
	if Col(wide, 4*n-1) != 2*n-1 || Place(wide, 0, 2*n-2) != 4*n-4 || Place(wide, 0, math.MaxInt) != 4*n-3 || First(strings.Repeat(" ", n), 0) != n-1 {
		t.Error("a long line")
	}
}
