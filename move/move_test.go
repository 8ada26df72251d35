package move

import (
	"math"
	"math/rand"
	"slices"
	"strings"
	"testing"
	"unicode/utf8"
)

// The chapter's own words, written out in another way than the program's: everything that a motion may lead to, as one list for each kind.

// char is a character of a string: where it begins and ends, its rune, its class, and its line.
type char struct {
	at, end int
	r       rune
	class   int
	line    int
}

// row is a line: where it begins and ends, and its characters, without the newline.
type row struct {
	from, to int
	chars    []char
}

// table is a string, and what is in it.
type table struct {
	s            string
	chars        []char
	rows         []row
	begins, ends []int // of words
	empty        []int // where the empty lines begin
}

// classOf is a rune's class, as layer 2 says.
func classOf(r rune) int {
	switch {
	case r == ' ', r == '\t':
		return 0
	case r == '\n':
		return 3
	case r == '_', r >= '0' && r <= '9', r >= 'a' && r <= 'z', r >= 'A' && r <= 'Z', r >= 128 && r != 0xFFFD:
		return 1
	}
	return 2
}

// lay makes the table of a string.
func lay(s string) *table {
	t := &table{s: s, rows: []row{{}}}
	for at := 0; at < len(s); {
		r, n := utf8.DecodeRuneInString(s[at:])
		last := len(t.rows) - 1
		c := char{at, at + n, r, classOf(r), last}
		t.chars = append(t.chars, c)
		at = c.end
		if r == '\n' {
			t.rows = append(t.rows, row{from: at, to: at})
			continue
		}
		t.rows[last].chars = append(t.rows[last].chars, c)
		t.rows[last].to = at
	}
	t.layWords()
	for _, l := range t.rows {
		if l.from == l.to {
			t.empty = append(t.empty, l.from)
		}
	}
	return t
}

// layWords finds where words begin and end.
func (t *table) layWords() {
	for i := 0; i < len(t.chars); {
		j := i
		for j < len(t.chars) && t.chars[j].class == t.chars[i].class {
			j++
		}
		if class := t.chars[i].class; class == 1 || class == 2 {
			t.begins = append(t.begins, t.chars[i].at)
			t.ends = append(t.ends, t.chars[j-1].at)
		}
		i = j
	}
}

// position is the beginning of the character that has the byte, and the number of its line.
func (t *table) position(at int) (a, l int) {
	at = max(at, 0)
	if at >= len(t.s) {
		return len(t.s), len(t.rows) - 1
	}
	i := slices.IndexFunc(t.chars, func(c char) bool { return at < c.end })
	return t.chars[i].at, t.chars[i].line
}

// last is the beginning of the last character of some.
func last(chars []char, none int) int {
	if len(chars) == 0 {
		return none
	}
	return chars[len(chars)-1].at
}

// first is the line's first character that is not blank.
func (l row) first() int {
	for _, c := range l.chars {
		if c.class != 0 {
			return c.at
		}
	}
	return last(l.chars, l.from)
}

// starts are the beginnings of characters with a rune, or of all for a rune of -1.
func (l row) starts(r rune) []int {
	var all []int
	for _, c := range l.chars {
		if r == -1 || c.r == r {
			all = append(all, c.at)
		}
	}
	return all
}

// after is the n-th of some places after a; instead if there are fewer.
func after(places []int, a, n, instead int) int {
	for _, at := range places {
		if at > a {
			n--
		}
		if n == 0 {
			return at
		}
	}
	return instead
}

// before is the n-th of some places before a, nearest first; instead if there are fewer.
func before(places []int, a, n, instead int) int {
	for _, at := range slices.Backward(places) {
		if at < a {
			n--
		}
		if n == 0 {
			return at
		}
	}
	return instead
}

// told is what the chapter says of a motion.
func (t *table) told(at int, m Motion) (to, kind int, ok bool) {
	a, number := t.position(at)
	to, kind = t.led(a, number, m)
	if to < 0 || kind == Exclusive && to == a || m.Key == 'e' && to <= a {
		return 0, 0, false
	}
	return to, kind, true
}

// led is where P12.1 says that a motion leads from a; -1: nowhere.
func (t *table) led(a, number int, m Motion) (to, kind int) {
	n := m.Count
	if n < 1 {
		n = 1
	} else if n > 999 {
		n = 999
	}
	l := t.rows[number]
	switch m.Key {
	case 'h':
		return before(l.starts(-1), a, n, l.from), Exclusive
	case 'l':
		return after(l.starts(-1), a, n, l.to), Exclusive
	case '0':
		return l.from, Exclusive
	case '^':
		return l.first(), Exclusive
	case '$':
		if number+n > len(t.rows) {
			return -1, Exclusive
		}
		return t.rows[number+n-1].to, Exclusive
	case 'w':
		return after(t.begins, a, n, len(t.s)), Exclusive
	case 'b':
		return before(t.begins, a, n, 0), Exclusive
	case 'e':
		return after(t.ends, a, n, last(t.chars, 0)), Inclusive
	case '}':
		return after(t.empty, l.to, n, len(t.s)), Exclusive
	case '{':
		return before(t.empty, l.from, n, 0), Exclusive
	case 'j':
		return t.place(number+n, a-l.from, l), Lines
	case 'k':
		return t.place(number-n, a-l.from, l), Lines
	case 'G', 'g':
		return t.numbered(m).first(), Lines
	}
	return l.found(a, n, m)
}

// found is where P12.1 says that a find leads in a line; -1: nowhere.
func (l row) found(a, n int, m Motion) (to, kind int) {
	neighbour := func(at, step int) int {
		if at < 0 {
			return -1
		}
		all := append(l.starts(-1), l.to)
		return all[slices.Index(all, at)+step]
	}
	if m.Arg < 0 {
		return -1, Exclusive
	}
	switch places := l.starts(m.Arg); m.Key {
	case 'f':
		return after(places, a, n, -1), Inclusive
	case 't':
		return neighbour(after(places, a, n, -1), -1), Inclusive
	case 'F':
		return before(places, a, n, -1), Exclusive
	case 'T':
		return neighbour(before(places, a, n, -1), 1), Exclusive
	}
	return -1, Exclusive
}

// place is the character of a line that stands in the same column as the one that stands some bytes on in another line; -1: there is no such line.
func (t *table) place(number, bytes int, from row) int {
	if number < 0 || number >= len(t.rows) {
		return -1
	}
	col := utf8.RuneCountInString(t.s[from.from : from.from+bytes])
	l := t.rows[number]
	if col >= len(l.chars) {
		return last(l.chars, l.from)
	}
	return l.chars[col].at
}

// numbered is the line that G or g means.
func (t *table) numbered(m Motion) row {
	switch {
	case m.Count > len(t.rows), m.Count < 1 && m.Key == 'G':
		return t.rows[len(t.rows)-1]
	case m.Count < 1:
		return t.rows[0]
	}
	return t.rows[m.Count-1]
}

const (
	allKeys = "hl0^$jkGgwbe}{fFtT"
	finds   = "fFtT"
	twice   = "hlwbe{}"
)

// args are runes that a find may look for.
func args(key rune) []rune {
	if !strings.ContainsRune(finds, key) {
		return []rune{0}
	}
	return []rune{'a', '.', ' ', '\n', 0xE9, 0xFFFD}
}

// check holds one motion against the chapter.
func check(t *testing.T, tab *table, at int, m Motion) {
	t.Helper()
	to, kind, ok := To(tab.s, at, m)
	wantTo, wantKind, wantOK := tab.told(at, m)
	if to != wantTo || kind != wantKind || ok != wantOK {
		t.Fatalf("%.40q, %c%q with %d from %d: %d, %d, %t; not %d, %d, %t", tab.s, m.Key, m.Arg, m.Count, at, to, kind, ok, wantTo, wantKind, wantOK)
	}
}

// checkAll holds all motions with some counts, from some places, against the chapter.
func checkAll(t *testing.T, s string, places, counts []int) {
	t.Helper()
	tab := lay(s)
	for _, key := range allKeys {
		for _, arg := range args(key) {
			for _, at := range places {
				for _, n := range counts {
					check(t, tab, at, Motion{key, arg, n})
				}
			}
		}
	}
}

// placesOf are all offsets in a string, and two on each side.
func placesOf(s string) []int {
	var l []int
	for at := -2; at <= len(s)+2; at++ {
		l = append(l, at)
	}
	return l
}

// eachString gives all strings of at most n parts.
func eachString(parts []string, n int, each func(s string)) {
	each("")
	if n == 0 {
		return
	}
	for _, part := range parts {
		eachString(parts, n-1, func(s string) { each(part + s) })
	}
}

// samples are strings with all sorts of words, lines and characters.
func samples() []string {
	return []string{
		"", "\n", "\n\n\n", "a", " ", "\t\t", ".", "\u00e9", "\xff", "\ufffd", "\x00", "#", "a\n", "\na", " \n ", " a \n", "\n\n a.a\n\n",
		example, "if (a == b) {\n\treturn a.b[3]\n}\n\n// end.\n", "gr\u00fc\u00dfe\n \u4f60\u597d, \U0001f600!\n\n\t\u20ac\u20ac \u20ac\n",
		"a\xc3\xa9\xc3 \xe2\x82a\xe2\x82\xac\n\xa9.\xff\xff\n\n\ufffd\xff_\x80", "aaa aaa\na a a\n  \n\n.a.a.a\n", "\r\n\r\na\vb\fc\x7f\n\r\n",
		"###\n# a#\n\n#", "x\u00a0y\u3000z\u2028w\u0085v", "    \n\t\n \t \n", "_a1 A-Z Z_9", "a\n\nb\n\n\nc\n \nd\n\n",
	}
}

const example = "ab cd.\n\n  x"

// P12.1

func TestExample(t *testing.T) {
	for _, c := range []struct {
		at       int
		key, arg rune
		count    int
		to, kind int
		ok       bool
	}{
		{0, 'w', 0, 0, 3, Exclusive, true}, {3, 'w', 0, 0, 5, Exclusive, true}, {0, 'w', 0, 3, 10, Exclusive, true}, {0, 'w', 0, 9, 11, Exclusive, true},
		{0, 'e', 0, 0, 1, Inclusive, true}, {1, 'e', 0, 0, 4, Inclusive, true}, {10, 'b', 0, 0, 5, Exclusive, true},
		{0, '$', 0, 0, 6, Exclusive, true}, {0, '$', 0, 4, 0, 0, false},
		{4, 'j', 0, 0, 7, Lines, true}, {4, 'j', 0, 2, 10, Lines, true},
		{0, '}', 0, 0, 7, Exclusive, true}, {7, '}', 0, 0, 11, Exclusive, true}, {0, 'G', 0, 0, 10, Lines, true},
		{8, '^', 0, 0, 10, Exclusive, true}, {5, 'l', 0, 0, 6, Exclusive, true}, {6, 'l', 0, 0, 0, 0, false},
		{0, 'f', 'c', 0, 3, Inclusive, true}, {0, 't', 'c', 0, 2, Inclusive, true}, {4, 'F', 'a', 0, 0, Exclusive, true}, {4, 'T', 'a', 0, 1, Exclusive, true},
	} {
		to, kind, ok := To(example, c.at, Motion{c.key, c.arg, c.count})
		if to != c.to || kind != c.kind || ok != c.ok {
			t.Errorf("%c%c with %d from %d: %d, %d, %t", c.key, c.arg, c.count, c.at, to, kind, ok)
		}
	}
}

// one is a motion from a place in a string, and where it leads; -1: nowhere.
type one struct {
	s     string
	at    int
	key   rune
	arg   rune
	count int
	to    int
}

func checkEach(t *testing.T, kind int, l []one) {
	t.Helper()
	for _, c := range l {
		want, wantKind, wantOK := c.to, kind, true
		if c.to < 0 {
			want, wantKind, wantOK = 0, 0, false
		}
		if to, kind, ok := To(c.s, c.at, Motion{c.key, c.arg, c.count}); to != want || kind != wantKind || ok != wantOK {
			t.Errorf("%.30q, %c%q with %d from %d: %d, %d, %t", c.s, c.key, c.arg, c.count, c.at, to, kind, ok)
		}
	}
}

func TestKindsAreNumbered(t *testing.T) {
	if Exclusive != 0 || Inclusive != 1 || Lines != 2 {
		t.Error("the kinds are not 0, 1 and 2")
	}
}

func TestWithinALine(t *testing.T) {
	const s = "a\n b\u00e9\xffc\n\n  \n" // lines: 0 to 1, 2 to 8, 9, 10 to 12, 13
	checkEach(t, Exclusive, []one{
		{s, 8, 'h', 0, 1, 7}, {s, 8, 'h', 0, 3, 4}, {s, 8, 'h', 0, 5, 2}, {s, 8, 'h', 0, 6, 2}, {s, 5, 'h', 0, 1, 3}, {s, 2, 'h', 0, 1, -1}, {s, 9, 'h', 0, 1, -1}, {s, 13, 'h', 0, 1, -1}, {s, 0, 'h', 0, 1, -1}, {s, 12, 'h', 0, 1, 11},
		{s, 2, 'l', 0, 1, 3}, {s, 2, 'l', 0, 3, 6}, {s, 5, 'l', 0, 1, 6}, {s, 2, 'l', 0, 4, 7}, {s, 2, 'l', 0, 5, 8}, {s, 2, 'l', 0, 999, 8}, {s, 7, 'l', 0, 1, 8}, {s, 8, 'l', 0, 1, -1}, {s, 9, 'l', 0, 1, -1}, {s, 13, 'l', 0, 1, -1},
		{s, 7, '0', 0, 0, 2}, {s, 7, '0', 0, 5, 2}, {s, 2, '0', 0, 0, -1}, {s, 8, '0', 0, 0, 2}, {s, 9, '0', 0, 0, -1},
		{s, 7, '^', 0, 0, 3}, {s, 7, '^', 0, 5, 3}, {s, 2, '^', 0, 0, 3}, {s, 3, '^', 0, 0, -1}, {s, 10, '^', 0, 0, 11}, {s, 11, '^', 0, 0, -1}, {s, 12, '^', 0, 0, 11}, {s, 9, '^', 0, 0, -1},
		{s, 0, '$', 0, 0, 1}, {s, 0, '$', 0, 1, 1}, {s, 0, '$', 0, 2, 8}, {s, 0, '$', 0, 3, 9}, {s, 0, '$', 0, 5, 13}, {s, 0, '$', 0, 6, -1}, {s, 1, '$', 0, 1, -1}, {s, 9, '$', 0, 1, -1}, {s, 9, '$', 0, 2, 12}, {s, 9, '$', 0, 3, 13}, {s, 9, '$', 0, 4, -1}, {s, 13, '$', 0, 1, -1}, {s, 13, '$', 0, 2, -1},
	})
}

func TestLinesUpAndDown(t *testing.T) {
	const s = "abc\n\n\u00e9\u20acd\nx" // lines at 0, 4, 5, 12
	checkEach(t, Lines, []one{
		{s, 2, 'j', 0, 0, 4}, {s, 2, 'j', 0, 2, 10}, {s, 1, 'j', 0, 2, 7}, {s, 3, 'j', 0, 2, 10}, {s, 2, 'j', 0, 3, 12}, {s, 2, 'j', 0, 4, -1}, {s, 12, 'j', 0, 1, -1}, {s, 13, 'j', 0, 1, -1}, {s, 6, 'j', 0, 1, 12},
		{s, 12, 'k', 0, 0, 5}, {s, 13, 'k', 0, 1, 7}, {s, 9, 'k', 0, 2, 1}, {s, 10, 'k', 0, 2, 2}, {s, 11, 'k', 0, 2, 2}, {s, 10, 'k', 0, 1, 4}, {s, 10, 'k', 0, 3, -1}, {s, 0, 'k', 0, 1, -1}, {s, 3, 'k', 0, 1, -1}, {s, 12, 'k', 0, 3, 0},
		{s, 12, 'k', 0, math.MaxInt, -1}, {s, 0, 'j', 0, math.MaxInt, -1}, {s, 0, 'j', 0, math.MinInt, 4},
	})
}

func TestLinesByTheirNumber(t *testing.T) {
	const s = "  a\nb\n\n \t"
	checkEach(t, Lines, []one{
		{s, 0, 'G', 0, 0, 8}, {s, 0, 'G', 0, -1, 8}, {s, 8, 'G', 0, 0, 8}, {s, 0, 'G', 0, 1, 2}, {s, 0, 'G', 0, 2, 4}, {s, 0, 'G', 0, 3, 6}, {s, 0, 'G', 0, 4, 8}, {s, 0, 'G', 0, 5, 8}, {s, 0, 'G', 0, math.MaxInt, 8}, {s, 0, 'G', 0, math.MinInt, 8},
		{s, 0, 'g', 0, 0, 2}, {s, 8, 'g', 0, -1, 2}, {s, 2, 'g', 0, 0, 2}, {s, 8, 'g', 0, 1, 2}, {s, 0, 'g', 0, 2, 4}, {s, 0, 'g', 0, 4, 8}, {s, 0, 'g', 0, 5, 8}, {s, 0, 'g', 0, math.MaxInt, 8}, {s, 8, 'g', 0, math.MinInt, 2},
		{"", 0, 'G', 0, 0, 0}, {"", 0, 'g', 0, 0, 0}, {"", 9, 'G', 0, 9, 0}, {"a\n", 0, 'G', 0, 0, 2}, {"a\n", 2, 'g', 0, 0, 0},
	})
}

func TestWords(t *testing.T) {
	const s = ".a_1 \u00e9\xff\ufffd\n\n\tb.." // words: . a_1 e9 (ff fffd) b ..
	checkEach(t, Exclusive, []one{
		{s, 0, 'w', 0, 0, 1}, {s, 0, 'w', 0, 2, 5}, {s, 0, 'w', 0, 3, 7}, {s, 0, 'w', 0, 4, 14}, {s, 0, 'w', 0, 5, 15}, {s, 0, 'w', 0, 6, 17}, {s, 2, 'w', 0, 1, 5}, {s, 4, 'w', 0, 1, 5}, {s, 8, 'w', 0, 1, 14}, {s, 11, 'w', 0, 1, 14}, {s, 16, 'w', 0, 1, 17}, {s, 17, 'w', 0, 1, -1},
		{s, 17, 'b', 0, 0, 15}, {s, 16, 'b', 0, 1, 15}, {s, 15, 'b', 0, 1, 14}, {s, 14, 'b', 0, 1, 7}, {s, 12, 'b', 0, 1, 7}, {s, 8, 'b', 0, 1, 7}, {s, 7, 'b', 0, 1, 5}, {s, 5, 'b', 0, 1, 1}, {s, 3, 'b', 0, 1, 1}, {s, 1, 'b', 0, 1, 0}, {s, 0, 'b', 0, 1, -1}, {s, 17, 'b', 0, 5, 1}, {s, 17, 'b', 0, 6, 0}, {s, 17, 'b', 0, 7, 0},
		{" a", 0, 'w', 0, 1, 1}, {" a", 1, 'b', 0, 1, 0}, {"  ", 2, 'b', 0, 1, 0}, {"  ", 0, 'w', 0, 1, 2}, {"\n\n", 0, 'w', 0, 1, 2}, {"a\nb", 0, 'w', 0, 1, 2}, {"a\n", 0, 'w', 0, 1, 2}, {"ab", 1, 'b', 0, 1, 0}, {"ab", 1, 'w', 0, 1, 2},
		{"", 0, 'w', 0, 1, -1}, {"", 0, 'b', 0, 1, -1},
	})
	checkEach(t, Inclusive, []one{
		{s, 0, 'e', 0, 0, 3}, {s, 0, 'e', 0, 2, 5}, {s, 0, 'e', 0, 3, 8}, {s, 0, 'e', 0, 4, 14}, {s, 0, 'e', 0, 5, 16}, {s, 0, 'e', 0, 6, 16}, {s, 3, 'e', 0, 1, 5}, {s, 6, 'e', 0, 1, 8}, {s, 8, 'e', 0, 1, 14}, {s, 14, 'e', 0, 1, 16}, {s, 16, 'e', 0, 1, -1}, {s, 17, 'e', 0, 1, -1},
		{"a ", 0, 'e', 0, 1, 1}, {"a \n", 0, 'e', 0, 1, 2}, {"a \n", 2, 'e', 0, 1, -1}, {"a\u00e9 ", 0, 'e', 0, 1, 1}, {"a\u00e9", 0, 'e', 0, 9, 1}, {"a\u00e9", 2, 'e', 0, 1, -1}, {"a\u00e9", 3, 'e', 0, 1, -1},
		{"", 0, 'e', 0, 1, -1}, {"a", 0, 'e', 0, 1, -1}, {"a", 1, 'e', 0, 1, -1}, {"\n\n", 0, 'e', 0, 1, 1}, {"a\nb", 0, 'e', 0, 1, 2},
	})
}

func TestEmptyLines(t *testing.T) {
	const s = "\na\n\n\nb \n \n\n" // empty: 0, 3, 4, 10, 11
	checkEach(t, Exclusive, []one{
		{s, 0, '}', 0, 0, 3}, {s, 0, '}', 0, 2, 4}, {s, 0, '}', 0, 3, 10}, {s, 0, '}', 0, 4, 11}, {s, 0, '}', 0, 5, 11}, {s, 1, '}', 0, 1, 3}, {s, 2, '}', 0, 1, 3}, {s, 3, '}', 0, 1, 4}, {s, 4, '}', 0, 1, 10}, {s, 6, '}', 0, 1, 10}, {s, 8, '}', 0, 1, 10}, {s, 10, '}', 0, 1, 11}, {s, 11, '}', 0, 1, -1},
		{s, 11, '{', 0, 0, 10}, {s, 11, '{', 0, 2, 4}, {s, 11, '{', 0, 3, 3}, {s, 11, '{', 0, 4, 0}, {s, 11, '{', 0, 9, 0}, {s, 9, '{', 0, 1, 4}, {s, 5, '{', 0, 1, 4}, {s, 4, '{', 0, 1, 3}, {s, 3, '{', 0, 1, 0}, {s, 2, '{', 0, 1, 0}, {s, 0, '{', 0, 1, -1},
		{"ab\nc", 1, '}', 0, 1, 4}, {"ab\nc", 4, '}', 0, 1, -1}, {"ab\nc", 3, '{', 0, 1, 0}, {"ab\nc", 1, '{', 0, 1, 0}, {"a\n \nb", 0, '}', 0, 1, 5}, {"a\r\n\r\nb", 0, '}', 0, 1, 6},
		{"\xc3\n\n\xa9", 0, '}', 0, 1, 2}, {"\xc3\n\n\xa9", 3, '{', 0, 1, 2}, {"\xc3\n\n\xa9", 2, '{', 0, 1, 0}, {"", 0, '}', 0, 1, -1}, {"", 0, '{', 0, 1, -1},
	})
}

func TestFinds(t *testing.T) {
	const s = "a\nab\u00e9a\xffa\u00e9\na" // line 1: 2 to 11
	checkEach(t, Inclusive, []one{
		{s, 2, 'f', 'a', 0, 6}, {s, 2, 'f', 'a', 2, 8}, {s, 2, 'f', 'a', 3, -1}, {s, 2, 'f', 'b', 1, 3}, {s, 2, 'f', 0xE9, 1, 4}, {s, 2, 'f', 0xE9, 2, 9}, {s, 5, 'f', 0xE9, 1, 9}, {s, 9, 'f', 0xE9, 1, -1}, {s, 2, 'f', 0xFFFD, 1, 7}, {s, 8, 'f', 'a', 1, -1}, {s, 11, 'f', 'a', 1, -1}, {s, 0, 'f', 'a', 1, -1}, {s, 1, 'f', 'a', 1, -1}, {s, 2, 'f', '\n', 1, -1}, {s, 2, 'f', 'z', 1, -1},
		{s, 2, 't', 'a', 0, 4}, {s, 2, 't', 'a', 2, 7}, {s, 2, 't', 'a', 3, -1}, {s, 2, 't', 'b', 1, 2}, {s, 2, 't', 0xE9, 1, 3}, {s, 3, 't', 0xE9, 1, 3}, {s, 2, 't', 0xE9, 2, 8}, {s, 2, 't', 0xFFFD, 1, 6}, {s, 2, 't', '\n', 1, -1}, {s, 2, 't', 'z', 1, -1}, {s, 11, 't', 'a', 1, -1},
		{"\x00\x00", 0, 'f', 0, 1, 1}, {"\xff\ufffd", 0, 'f', 0xFFFD, 1, 1}, {"a\xc3\xa9", 0, 'f', 0xC3, 1, -1}, {"", 0, 'f', 0, 1, -1}, {"", 0, 't', 0, 1, -1}, {"a", 0, 'f', 'a', 1, -1},
	})
	checkEach(t, Exclusive, []one{
		{s, 11, 'F', 'a', 0, 8}, {s, 11, 'F', 'a', 2, 6}, {s, 11, 'F', 'a', 3, 2}, {s, 11, 'F', 'a', 4, -1}, {s, 8, 'F', 'a', 1, 6}, {s, 10, 'F', 0xE9, 1, 4}, {s, 5, 'F', 0xE9, 1, -1}, {s, 11, 'F', 0xE9, 1, 9}, {s, 11, 'F', 0xFFFD, 1, 7}, {s, 2, 'F', 'a', 1, -1}, {s, 12, 'F', 'a', 1, -1}, {s, 11, 'F', '\n', 1, -1}, {s, 13, 'F', 'a', 1, 12}, {s, 13, 'F', 'a', 2, -1},
		{s, 11, 'T', 'a', 0, 9}, {s, 11, 'T', 'a', 2, 7}, {s, 11, 'T', 'a', 3, 3}, {s, 11, 'T', 'a', 4, -1}, {s, 9, 'T', 'a', 1, -1}, {s, 8, 'T', 0xE9, 1, 6}, {s, 11, 'T', 0xE9, 1, -1}, {s, 11, 'T', 0xE9, 2, 6}, {s, 8, 'T', 0xFFFD, 1, -1}, {s, 3, 'T', 'a', 1, -1}, {s, 3, 'T', 'a', 2, -1}, {s, 12, 'T', '\n', 1, -1}, {s, 11, 'T', 'z', 1, -1},
		{"", 0, 'F', 0, 1, -1}, {"", 0, 'T', 0, 1, -1}, {"a", 1, 'F', 'a', 1, 0}, {"a", 1, 'T', 'a', 1, -1},
	})
}

func TestRunesThatAreNotFound(t *testing.T) {
	s := "a\x00\u00e9\xff\ufffd\U0010ffff\x7f\x80 a"
	for _, key := range finds {
		for _, arg := range []rune{math.MinInt32, -256 + 'a', -1, '\n', 'b', 128, 0xC3, 0xFF, 256, 256 + 'a', 0xD800, 0xDFFF, 0x10000 + 'a', 0x110000, 0x1000000 + 'a', math.MaxInt32} {
			for at := range len(s) + 1 {
				if to, kind, ok := To(s, at, Motion{Key: key, Arg: arg}); to != 0 || kind != 0 || ok {
					t.Errorf("%c of %#x from %d: %d, %d, %t", key, arg, at, to, kind, ok)
				}
			}
		}
	}
}

func TestPlacesOutsideAndWithinCharacters(t *testing.T) {
	for _, s := range samples() {
		for _, key := range allKeys {
			for _, arg := range args(key) {
				m := Motion{key, arg, 1}
				tab := lay(s)
				for _, at := range []int{math.MinInt, math.MinInt + 1, -1, len(s) + 1, math.MaxInt - 1, math.MaxInt} {
					check(t, tab, at, m)
				}
				for _, c := range tab.chars {
					to, kind, ok := To(s, c.at, m)
					for at := c.at + 1; at < c.end; at++ {
						if to2, kind2, ok2 := To(s, at, m); to2 != to || kind2 != kind || ok2 != ok {
							t.Errorf("%q, %c from %d and from %d: %d, %d", s, key, c.at, at, to, to2)
						}
					}
				}
			}
		}
	}
}

func TestSamples(t *testing.T) {
	counts := []int{math.MinInt, math.MinInt + 1, -1, 0, 1, 2, 3, 4, 5, 7, 10, 998, 999, 1000, math.MaxInt - 1, math.MaxInt}
	for _, s := range samples() {
		checkAll(t, s, placesOf(s), counts)
	}
}

func TestAllSmallStrings(t *testing.T) {
	eachString([]string{"\n", "a", " ", ".", "\xc3", "\xa9"}, 4, func(s string) {
		checkAll(t, s, placesOf(s), []int{0, 1, 2, 3, math.MaxInt})
	})
	eachString([]string{"\n", "a", " ", "."}, 6, func(s string) {
		checkAll(t, s, placesOf(s), []int{1, 2})
	})
}

func TestRandomStrings(t *testing.T) {
	chance := rand.New(rand.NewSource(121))
	parts := []string{"\n", "\n", "\n\n", " ", "\t", "a", "b_", "..", "\u00e9", "\u20ac", "\U0001f600", "\xff", "\ufffd", "\x00", "#"}
	for range 150 {
		var s string
		for range chance.Intn(60) {
			s += parts[chance.Intn(len(parts))]
		}
		checkAll(t, s, placesOf(s), []int{1, 1 + chance.Intn(10)})
	}
}

func TestCountsOfAThousand(t *testing.T) {
	counts := []int{-1, 0, 1, 998, 999, 1000, 1001, 1500, 4096, math.MaxInt}
	for _, s := range []string{
		strings.Repeat("a", 1500), strings.Repeat("\u00e9", 1200), strings.Repeat("a ", 1200), strings.Repeat("a.", 600), strings.Repeat("a\n", 1500), strings.Repeat("\n", 1200), strings.Repeat("\xff \n\n", 1010),
	} {
		checkAll(t, s, []int{0, 1, 2, len(s) / 2, len(s) - 1, len(s)}, counts)
	}
	lines := strings.Repeat("a\n", 1500)
	checkEach(t, Lines, []one{{lines, 0, 'j', 0, 1000, 1998}, {lines, 0, 'G', 0, 1000, 1998}, {lines, 0, 'G', 0, 1201, 2400}, {lines, 0, 'g', 0, 1201, 2400}, {lines, 3000, 'k', 0, 1200, 1002}})
	checkEach(t, Exclusive, []one{{lines, 0, '$', 0, 1200, 1997}, {lines, 0, 'w', 0, 1200, 1998}, {lines, 3000, 'b', 0, 1200, 1002}, {lines, 2004, '$', 0, 1200, -1}})
	row := strings.Repeat("a", 1500)
	checkEach(t, Exclusive, []one{{row, 0, 'l', 0, 1200, 999}, {row, 1500, 'h', 0, 1200, 501}, {row, 1500, 'F', 'a', 1200, 501}, {row, 1500, 'T', 'a', 1200, 502}})
	checkEach(t, Inclusive, []one{{row, 0, 'f', 'a', 1200, 999}, {row, 0, 't', 'a', 1200, 998}, {row, 600, 'f', 'a', 1200, -1}, {strings.Repeat("a.", 600), 0, 'e', 0, 1200, 999}})
}

func TestOtherKeys(t *testing.T) {
	keys := []rune{math.MinInt32, -256 + 'h', -'w', -1, 0xFFFD, 0x10FFFF, 0x110000, math.MaxInt32}
	for key := range rune(0x400) {
		keys = append(keys, key)
	}
	for _, key := range allKeys {
		keys = append(keys, 0x10000+key, 0x1000000+key, -0x10000+key)
	}
	for _, key := range keys {
		if key >= 0 && strings.ContainsRune(allKeys, key) {
			continue
		}
		for _, at := range []int{-1, 0, 4, 9, len(example)} {
			if to, kind, ok := To(example, at, Motion{key, 'a', 1}); to != 0 || kind != 0 || ok {
				t.Errorf("key %#x from %d: %d, %d, %t", key, at, to, kind, ok)
			}
		}
	}
	if to, kind, ok := To(example, 3, Motion{}); to != 0 || kind != 0 || ok {
		t.Error("the empty motion leads somewhere")
	}
}

// P12.2

func TestWithin(t *testing.T) {
	eachMove(func(s string, a int, m Motion, to, kind int) {
		begins := to == len(s)
		for at := range s {
			begins = begins || at == to
		}
		if !begins {
			t.Fatalf("%q, %c with %d from %d: no character begins at %d", s, m.Key, m.Count, a, to)
		}
		if kind == Exclusive && to == a {
			t.Fatalf("%q, %c with %d stays at %d", s, m.Key, m.Count, a)
		}
	})
}

// eachMove gives all motions that succeed with a count of at most 4, from each character's beginning and the end of many strings.
func eachMove(each func(s string, a int, m Motion, to, kind int)) {
	some := samples()
	eachString([]string{"\n", "a", " ", ".", "\xff", "\u00e9"}, 4, func(s string) { some = append(some, s) })
	for _, s := range some {
		places := []int{len(s)}
		for at := range s {
			places = append(places, at)
		}
		for _, key := range allKeys {
			for _, arg := range args(key) {
				for _, a := range places {
					for n := 1; n <= 4; n++ {
						if to, kind, ok := To(s, a, Motion{key, arg, n}); ok {
							each(s, a, Motion{key, arg, n}, to, kind)
						}
					}
				}
			}
		}
	}
}

// P12.3

func TestTwice(t *testing.T) {
	seen := map[rune]int{}
	eachMove(func(s string, a int, m Motion, to, kind int) {
		if !strings.ContainsRune(twice, m.Key) {
			return
		}
		for n := 1; n <= 4; n++ {
			last, _, ok := To(s, to, Motion{m.Key, 0, n})
			if !ok {
				continue
			}
			seen[m.Key]++
			if at, _, ok := To(s, a, Motion{m.Key, 0, m.Count + n}); !ok || at != last {
				t.Fatalf("%q, %c from %d with %d and with %d: %d; with both: %d, %t", s, m.Key, a, m.Count, n, last, at, ok)
			}
		}
	})
	for _, key := range twice {
		if seen[key] < 100 {
			t.Errorf("%c succeeded twice only %d times", key, seen[key])
		}
	}
}

func TestTwiceWithGreatCounts(t *testing.T) {
	for _, s := range []string{strings.Repeat("a", 1100), strings.Repeat("a ", 1100), strings.Repeat("\n", 1100), strings.Repeat(".a\n\n", 1100)} {
		for _, key := range twice {
			for _, a := range []int{0, 1, len(s) - 1, len(s)} {
				for _, n := range []int{1, 2, 499, 500, 997, 998} {
					middle, _, ok := To(s, a, Motion{key, 0, n})
					if !ok {
						continue
					}
					last, _, ok := To(s, middle, Motion{key, 0, 999 - n})
					if !ok {
						continue
					}
					if at, _, ok := To(s, a, Motion{key, 0, 999}); !ok || at != last {
						t.Fatalf("%.20q, %c from %d with %d: %d, not %d", s, key, a, n, at, last)
					}
				}
			}
		}
	}
}

// P12.4

func TestFindsLeadToTheRune(t *testing.T) {
	seen := 0
	eachMove(func(s string, a int, m Motion, to, kind int) {
		if m.Key != 'f' && m.Key != 'F' {
			return
		}
		seen++
		if r, _ := utf8.DecodeRuneInString(s[to:]); r != m.Arg {
			t.Fatalf("%q, %c%q from %d: %q stands at %d", s, m.Key, m.Arg, a, r, to)
		}
		between := 0
		for at, r := range s {
			if min(a, to) < at && at < max(a, to) && r == m.Arg {
				between++
			}
		}
		if between != m.Count-1 || (m.Key == 'f') != (to > a) || strings.Contains(s[min(a, to):max(a, to)], "\n") {
			t.Fatalf("%q, %c%q with %d from %d to %d: %d others are between", s, m.Key, m.Arg, m.Count, a, to, between)
		}
	})
	if seen < 100 {
		t.Errorf("finds succeeded only %d times", seen)
	}
}

// P12.5

func TestDownAndUpAgain(t *testing.T) {
	seen := 0
	eachMove(func(s string, a int, m Motion, to, kind int) {
		if m.Key != 'j' {
			return
		}
		seen++
		from := strings.Count(s[:a], "\n")
		if strings.Count(s[:to], "\n") != from+m.Count {
			t.Fatalf("%q, j with %d from %d: %d", s, m.Count, a, to)
		}
		back, kind, ok := To(s, to, Motion{'k', 0, m.Count})
		if !ok || kind != Lines || strings.Count(s[:back], "\n") != from {
			t.Fatalf("%q, k with %d from %d: %d, %d, %t", s, m.Count, to, back, kind, ok)
		}
	})
	if seen < 100 {
		t.Errorf("j succeeded only %d times", seen)
	}
}

// Rules

func TestSameArgumentsSameAnswer(t *testing.T) {
	for _, s := range samples() {
		for _, key := range allKeys {
			m := Motion{key, 'a', 2}
			to, kind, ok := To(s, 1, m)
			To("other\n\ntext a a", 3, Motion{'w', 0, 2})
			if to2, kind2, ok2 := To(s, 1, m); to2 != to || kind2 != kind || ok2 != ok {
				t.Errorf("%q, %c: %d and %d", s, key, to, to2)
			}
		}
	}
}

// A text of layer 4 has at most 4096 bytes, but a string may have more.
func TestLongStrings(t *testing.T) {
	const n = 100000
	for _, part := range []string{"\u00e9 ", "a\n", "\n", "\xff"} {
		s := strings.Repeat(part, n)
		for _, key := range allKeys {
			for _, at := range []int{0, len(s) / 2, len(s)} {
				for _, arg := range []rune{'z', 0xFFFD} {
					To(s, at, Motion{key, arg, 999})
				}
			}
		}
	}
	lines := strings.Repeat("a\n", n)
	checkEach(t, Exclusive, []one{{lines, 0, '}', 0, 1, 2 * n}, {strings.Repeat("a", n), 0, 'w', 0, 1, n}, {strings.Repeat("a", n), n, 'b', 0, 1, 0}})
	checkEach(t, Lines, []one{{lines, 0, 'G', 0, 0, 2 * n}, {lines, 0, 'G', 0, n, 2*n - 2}, {lines, 2 * n, 'k', 0, 999, 2*n - 1998}})
}
