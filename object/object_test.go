package object

import (
	"math"
	"math/rand"
	"slices"
	"strings"
	"testing"
	"unicode/utf8"
)

// The chapter's own words, written out in another way than the program's: all objects of a string as lists, of which one is chosen.

// part is a row of characters of one class, or a pair: where it begins and where it ends.
type part struct{ from, to, class int }

// nothing is what Find answers where it finds nothing.
var nothing = part{-1, -1, 0}

// classOf is a rune's class, as layer 2 says.
func classOf(r rune) int {
	switch {
	case r == ' ', r == '\t':
		return 0
	case r == '\n':
		return 3
	case r == '_', r >= '0' && r <= '9', r >= 'a' && r <= 'z', r >= 'A' && r <= 'Z', r >= 128 && r != 0xFFFD:
		return 1
	}
	return 2
}

// rowsOf are the rows of a string, one after the other.
func rowsOf(s string) []part {
	var l []part
	for at := 0; at < len(s); {
		r, n := utf8.DecodeRuneInString(s[at:])
		if last := len(l) - 1; last >= 0 && l[last].class == classOf(r) {
			l[last].to = at + n
		} else {
			l = append(l, part{at, at + n, classOf(r)})
		}
		at += n
	}
	return l
}

// bracketsOf are the pairs of a kind: each opening byte with the first closing one up to which as many close as open.
func bracketsOf(s, opening, closing string) []part {
	var l []part
	for from := range len(s) {
		if s[from:from+1] != opening {
			continue
		}
		depth := 0
		for to := from; to < len(s); to++ {
			depth += strings.Count(s[to:to+1], opening) - strings.Count(s[to:to+1], closing)
			if depth == 0 {
				l = append(l, part{from, to, 0})
				break
			}
		}
	}
	return l
}

// quotesOf are the pairs of a quote in the line in which a place lies.
func quotesOf(s string, a int, quote string) []part {
	var l []part
	begins := strings.LastIndex(s[:a], "\n") + 1
	pieces := strings.Split(strings.Split(s[begins:], "\n")[0], quote)
	at := begins
	for i, piece := range pieces {
		if i%2 == 1 && i < len(pieces)-1 {
			l = append(l, part{at - 1, at + len(piece), 0})
		}
		at += len(piece) + 1
	}
	return l
}

// position is the beginning of the character that has the byte.
func position(s string, at int) int {
	a := 0
	for start := range s {
		if start <= at {
			a = start
		}
	}
	if at >= len(s) {
		return len(s)
	}
	return a
}

// told is what the chapter says of an object.
func told(s string, at int, around bool, key rune) part {
	a := position(s, at)
	if a == len(s) {
		return nothing
	}
	switch key {
	case 'w':
		return toldWord(rowsOf(s), a, around)
	case '(', ')', 'b':
		return chosen(innermost(bracketsOf(s, "(", ")"), a), around)
	case '[', ']':
		return chosen(innermost(bracketsOf(s, "[", "]"), a), around)
	case '{', '}', 'B':
		return chosen(innermost(bracketsOf(s, "{", "}"), a), around)
	case '"', '\'':
		pairs := quotesOf(s, a, string(key))
		if p := innermost(pairs, a); p != nothing {
			return chosen(p, around)
		}
		for _, p := range pairs {
			if p.from > a {
				return chosen(p, around)
			}
		}
	}
	return nothing
}

// toldWord is the row that contains a place, with the one that belongs to it.
func toldWord(rows []part, a int, around bool) part {
	i := slices.IndexFunc(rows, func(p part) bool { return p.from <= a && a < p.to })
	own := rows[i]
	after, before := part{class: -1}, part{class: -1}
	if i+1 < len(rows) {
		after = rows[i+1]
	}
	if i > 0 {
		before = rows[i-1]
	}
	from, to := own.from, own.to
	switch {
	case !around:
	case own.class == 0 && (after.class == 1 || after.class == 2), own.class != 0 && after.class == 0:
		to = after.to
	case own.class != 0 && before.class == 0:
		from = before.from
	}
	return part{from, to, 0}
}

// innermost is the pair about a place that opens last.
func innermost(pairs []part, a int) part {
	best := nothing
	for _, p := range pairs {
		if p.from <= a && a <= p.to && p.from > best.from {
			best = p
		}
	}
	return best
}

// chosen is what lies between a pair, or from its beginning to its end.
func chosen(p part, around bool) part {
	switch {
	case p == nothing:
		return nothing
	case around:
		return part{p.from, p.to + 1, 0}
	}
	return part{p.from + 1, p.to, 0}
}

const (
	allKeys     = "w()b[]{}B\"'"
	bracketKeys = "()b[]{}B"
	example     = "ab  (c [d] \"e\") f"
)

// checkAnswer holds one answer against what is wanted.
func checkAnswer(t *testing.T, s string, at int, around bool, key rune, want part) {
	t.Helper()
	wantOK := want != nothing
	if !wantOK {
		want = part{}
	}
	if from, to, ok := Find(s, at, around, key); from != want.from || to != want.to || ok != wantOK {
		t.Fatalf("%.60q, %c (around: %t) from %d: %d, %d, %t; not %d, %d, %t", s, key, around, at, from, to, ok, want.from, want.to, wantOK)
	}
}

// checkAll holds all objects from some places against the chapter.
func checkAll(t *testing.T, s, keys string, places []int) {
	t.Helper()
	for _, key := range keys {
		for _, at := range places {
			for _, around := range []bool{false, true} {
				checkAnswer(t, s, at, around, key, told(s, at, around, key))
			}
		}
	}
}

// placesOf are all offsets in a string, and two on each side.
func placesOf(s string) []int {
	var l []int
	for at := -2; at <= len(s)+2; at++ {
		l = append(l, at)
	}
	return l
}

// eachString gives all strings of at most n parts.
func eachString(parts []string, n int, each func(s string)) {
	each("")
	if n == 0 {
		return
	}
	for _, part := range parts {
		eachString(parts, n-1, func(s string) { each(part + s) })
	}
}

// samples are strings with all sorts of words, pairs, lines and characters.
func samples() []string {
	return []string{
		"", "\n", "\n\n\n", "a", " ", "\t \t", ".", "\u00e9", "\xff", "\ufffd", "\x00", "#", "a\n", "\na", " \n ", " a \n", "\n\n a.a\n\n",
		example, "if (a == b[i]) {\n\treturn (f(a)[b[3]])\n}\n\n// end.\n", "gr\u00fc\u00dfe\n \u4f60\u597d, \U0001f600!\n\n\t\u20ac\u20ac \u20ac\n",
		"a\xc3\xa9\xc3 \xe2\x82a\xe2\x82\xac\n\xa9.\xff\xff\n\n\ufffd\xff_\x80", "\r\n\r\na\vb\fc\x7f\n\r\n",
		"()", "(", ")", ")(", "())", "(()", "((a)b)", "(a)(b)", ")(a)(", "(a(b)", "(a)b)", "([)]", "{[(<>)]}", "((((", "))))", "(\n(\n)\n)", "{\n[a\n]{\n}\n",
		"\"\"", "\"", "\"\"\"", "\"a\" \"b\" \"", "'a\"b'c\"d'e'", "\"a\nb\" \"c\"\n\"", "a \"\" b ''", "'''\n''''\n'", " \"\u00e9\" '\xff' \"\xc3\"\xa9",
		"\xc3(\xa9)\xe2[\x82]\xac{\xff}", "(\"a)\" '(') b", "x\u00a0y\u3000z\u2028w\u0085v", "    \n\t\n \t \n", "_a1 A-Z Z_9", "a\n\nb\n\n\nc\n \nd\n\n",
	}
}

// P13.1

func TestExample(t *testing.T) {
	for _, c := range []struct {
		at     int
		around bool
		key    rune
		want   part
	}{
		{0, false, 'w', part{0, 2, 0}}, {0, true, 'w', part{0, 4, 0}}, {2, false, 'w', part{2, 4, 0}}, {2, true, 'w', part{2, 5, 0}},
		{8, false, '(', part{5, 14, 0}}, {8, true, '(', part{4, 15, 0}}, {8, false, '[', part{8, 9, 0}}, {5, false, '[', nothing},
		{5, false, '"', part{12, 13, 0}}, {12, true, '"', part{11, 14, 0}}, {17, false, 'w', nothing},
	} {
		checkAnswer(t, example, c.at, c.around, c.key, c.want)
	}
}

// one is an object in a string: found from some places, and where it is, inside and around.
type one struct {
	s              string
	places         []int
	key            rune
	inside, around part
}

func checkEach(t *testing.T, l []one) {
	t.Helper()
	for _, c := range l {
		for _, at := range c.places {
			checkAnswer(t, c.s, at, false, c.key, c.inside)
			checkAnswer(t, c.s, at, true, c.key, c.around)
		}
	}
}

func TestWords(t *testing.T) {
	const s = " ab_\u00e9 ..\xff\ufffd\n\n\tc1 \n." // rows: 0, 1 to 6, 6, 7 to 13, 13 to 15, 15, 16 to 18, 18, 19, 20
	checkEach(t, []one{
		{s, []int{math.MinInt, -1, 0}, 'w', part{0, 1, 0}, part{0, 6, 0}},
		{s, []int{1, 2, 3, 4, 5}, 'w', part{1, 6, 0}, part{1, 7, 0}},
		{s, []int{6}, 'w', part{6, 7, 0}, part{6, 13, 0}},
		{s, []int{7, 8, 9, 10, 11, 12}, 'w', part{7, 13, 0}, part{6, 13, 0}},
		{s, []int{13, 14}, 'w', part{13, 15, 0}, part{13, 16, 0}},
		{s, []int{15}, 'w', part{15, 16, 0}, part{15, 18, 0}},
		{s, []int{16, 17}, 'w', part{16, 18, 0}, part{16, 19, 0}},
		{s, []int{18}, 'w', part{18, 19, 0}, part{18, 19, 0}},
		{s, []int{19}, 'w', part{19, 20, 0}, part{18, 20, 0}},
		{s, []int{20}, 'w', part{20, 21, 0}, part{20, 21, 0}},
		{s, []int{21, 22, math.MaxInt}, 'w', nothing, nothing},
		{"", []int{-1, 0, 1}, 'w', nothing, nothing},
	})
}

func TestWhatGoesWithAWord(t *testing.T) {
	checkEach(t, []one{
		{"a", []int{0}, 'w', part{0, 1, 0}, part{0, 1, 0}},
		{" ", []int{0}, 'w', part{0, 1, 0}, part{0, 1, 0}},
		{"\n", []int{0}, 'w', part{0, 1, 0}, part{0, 1, 0}},
		{" a", []int{1}, 'w', part{1, 2, 0}, part{0, 2, 0}},
		{"a \t", []int{1, 2}, 'w', part{1, 3, 0}, part{1, 3, 0}},
		{" \ta \t.", []int{2}, 'w', part{2, 3, 0}, part{2, 5, 0}},
		{"a \n", []int{1}, 'w', part{1, 2, 0}, part{1, 2, 0}},
		{"a \nb", []int{2}, 'w', part{2, 3, 0}, part{1, 3, 0}},
		{"a \n b", []int{2}, 'w', part{2, 3, 0}, part{2, 4, 0}},
		{"a\n\nb", []int{1, 2}, 'w', part{1, 3, 0}, part{1, 3, 0}},
		{"a.b", []int{1}, 'w', part{1, 2, 0}, part{1, 2, 0}},
		{" .a", []int{1}, 'w', part{1, 2, 0}, part{0, 2, 0}},
		{" .a", []int{0}, 'w', part{0, 1, 0}, part{0, 2, 0}},
		{" a.", []int{0}, 'w', part{0, 1, 0}, part{0, 2, 0}},
		{"a\n b", []int{2}, 'w', part{2, 3, 0}, part{2, 4, 0}},
		{"a\xc3 \xa9", []int{1}, 'w', part{1, 2, 0}, part{1, 3, 0}},
		{"a\xc3 \xa9", []int{2}, 'w', part{2, 3, 0}, part{2, 4, 0}},
	})
}

func TestBrackets(t *testing.T) {
	for _, kind := range []string{"()", ")(", "b(", "[]", "][", "{}", "}{", "B{"} {
		in := func(s string) string {
			open := max(strings.IndexByte("([{", kind[0]), strings.IndexByte("([{", kind[1]))
			return strings.NewReplacer("(", "([{"[open:open+1], ")", ")]}"[open:open+1]).Replace(s)
		}
		key := rune(kind[0])
		checkEach(t, []one{
			{in("()"), []int{-1, 0, 1}, key, part{1, 1, 0}, part{0, 2, 0}},
			{in("()"), []int{2, 3}, key, nothing, nothing},
			{in("a(b)c"), []int{0, 4}, key, nothing, nothing},
			{in("a(b)c"), []int{1, 2, 3}, key, part{2, 3, 0}, part{1, 4, 0}},
			{in("(a(b)(c))d"), []int{0, 1, 8}, key, part{1, 8, 0}, part{0, 9, 0}},
			{in("(a(b)(c))d"), []int{2, 3, 4}, key, part{3, 4, 0}, part{2, 5, 0}},
			{in("(a(b)(c))d"), []int{5, 6, 7}, key, part{6, 7, 0}, part{5, 8, 0}},
			{in("(a(b)(c))d"), []int{9}, key, nothing, nothing},
			{in(")a(b"), []int{0, 1, 2, 3}, key, nothing, nothing},
			{in("a)(b)"), []int{0, 1}, key, nothing, nothing},
			{in("a)(b)"), []int{2, 3, 4}, key, part{3, 4, 0}, part{2, 5, 0}},
			{in("(a(b)"), []int{0, 1}, key, nothing, nothing},
			{in("(a(b)"), []int{2, 4}, key, part{3, 4, 0}, part{2, 5, 0}},
			{in("(a)b)"), []int{3, 4}, key, nothing, nothing},
			{in("\n(\n\u00e9\xff\n)\n"), []int{1, 2, 3, 4, 5, 6, 7}, key, part{2, 7, 0}, part{1, 8, 0}},
			{in("\n(\n\u00e9\xff\n)\n"), []int{0, 8, 9}, key, nothing, nothing},
			{"", []int{-1, 0, 1}, key, nothing, nothing},
		})
	}
}

func TestKindsOfBracketsAreApart(t *testing.T) {
	const s = "([{)]}"
	checkEach(t, []one{
		{s, []int{0, 1, 3}, 'b', part{1, 3, 0}, part{0, 4, 0}}, {s, []int{4, 5}, 'b', nothing, nothing},
		{s, []int{1, 2, 4}, ']', part{2, 4, 0}, part{1, 5, 0}}, {s, []int{0, 5}, ']', nothing, nothing},
		{s, []int{2, 3, 5}, 'B', part{3, 5, 0}, part{2, 6, 0}}, {s, []int{0, 1}, 'B', nothing, nothing},
		{"<a>", []int{0, 1, 2}, '(', nothing, nothing}, {"(]", []int{0, 1}, ')', nothing, nothing},
	})
}

func TestQuotes(t *testing.T) {
	for _, quote := range []string{"\"", "'"} {
		in := func(s string) string { return strings.ReplaceAll(s, "|", quote) }
		key := rune(quote[0])
		s := in("a|b|c|d|e|\n|f\ng| |\u00e9|\xff||") // line 0: pairs 1 3, 5 7; 9 remains; line 1: 11 remains; line 2: 15 17, 20 22 remains
		checkEach(t, []one{
			{s, []int{-1, 0, 1, 2, 3}, key, part{2, 3, 0}, part{1, 4, 0}},
			{s, []int{4, 5, 6, 7}, key, part{6, 7, 0}, part{5, 8, 0}},
			{s, []int{8, 9, 10, 11, 12, 13}, key, nothing, nothing},
			{s, []int{14, 15, 16, 17}, key, part{16, 17, 0}, part{15, 18, 0}},
			{s, []int{18, 19, 20, 21, 22}, key, part{21, 22, 0}, part{20, 23, 0}},
			{s, []int{23, 24}, key, nothing, nothing},
			{in("||"), []int{0, 1}, key, part{1, 1, 0}, part{0, 2, 0}},
			{in("||"), []int{2}, key, nothing, nothing},
			{in("|"), []int{0, 1}, key, nothing, nothing},
			{in("|||"), []int{0, 1}, key, part{1, 1, 0}, part{0, 2, 0}},
			{in("|||"), []int{2}, key, nothing, nothing},
			{in("a\n||"), []int{0, 1}, key, nothing, nothing},
			{in("|a\nb|"), []int{0, 1, 2, 3, 4}, key, nothing, nothing},
			{in("||\n"), []int{2}, key, nothing, nothing},
			{in("a\\|b|c|"), []int{0, 2, 4}, key, part{3, 4, 0}, part{2, 5, 0}},
			{"", []int{0}, key, nothing, nothing},
		})
	}
	checkEach(t, []one{{"\"a'\"b'", []int{0, 1}, '"', part{1, 3, 0}, part{0, 4, 0}}, {"\"a'\"b'", []int{0, 3, 5}, '\'', part{3, 5, 0}, part{2, 6, 0}}, {"`a`", []int{0, 1}, '"', nothing, nothing}})
}

func TestSamples(t *testing.T) {
	for _, s := range samples() {
		places := append(placesOf(s), math.MinInt, math.MinInt+1, math.MaxInt-1, math.MaxInt)
		checkAll(t, s, allKeys, places)
	}
}

func TestAllSmallStrings(t *testing.T) {
	eachString([]string{"\n", "a", " ", ".", "\xc3", "\xa9"}, 5, func(s string) { checkAll(t, s, "w", placesOf(s)) })
	eachString([]string{"(", ")", "a"}, 8, func(s string) { checkAll(t, s, "(b", placesOf(s)) })
	eachString([]string{"\"", "'", "a", "\n"}, 6, func(s string) { checkAll(t, s, "\"'", placesOf(s)) })
	eachString([]string{"{", "}", "[", "]", "\n", "\""}, 5, func(s string) { checkAll(t, s, allKeys, placesOf(s)) })
}

func TestRandomStrings(t *testing.T) {
	chance := rand.New(rand.NewSource(131))
	parts := []string{"\n", " ", "\t", "a", "b_", "..", "\u00e9", "\u20ac", "\U0001f600", "\xff", "\xc3", "\xa9", "\ufffd", "\x00", "#", "(", ")", "(", ")", "[", "]", "{", "}", "\"", "\"", "'", "'"}
	for range 400 {
		var s string
		for range chance.Intn(60) {
			s += parts[chance.Intn(len(parts))]
		}
		checkAll(t, s, allKeys, placesOf(s))
	}
}

func TestPlacesWithinCharacters(t *testing.T) {
	seen := 0
	for _, s := range samples() {
		for start, r := range s {
			for at := start + 1; at < start+utf8.RuneLen(r) && strings.HasPrefix(s[start:], string(r)); at++ {
				seen++
				for _, key := range allKeys {
					from, to, ok := Find(s, start, true, key)
					if from2, to2, ok2 := Find(s, at, true, key); from2 != from || to2 != to || ok2 != ok {
						t.Errorf("%q, %c from %d and from %d: %d, %d and %d, %d", s, key, start, at, from, to, from2, to2)
					}
				}
			}
		}
	}
	if seen < 20 {
		t.Errorf("only %d places lie within characters", seen)
	}
}

func TestOtherKeys(t *testing.T) {
	keys := []rune{math.MinInt32, -256 + 'w', -'w', -1, 0xFFFD, 0x10FFFF, 0x110000, math.MaxInt32}
	for key := range rune(0x400) {
		keys = append(keys, key)
	}
	for _, key := range allKeys {
		keys = append(keys, 0x10000+key, 0x1000000+key, -0x10000+key)
	}
	const s = "<`(a [{\"'b'\"}])`>"
	for _, key := range keys {
		if key >= 0 && strings.ContainsRune(allKeys, key) {
			continue
		}
		for at := range len(s) + 1 {
			checkAnswer(t, s, at, false, key, nothing)
			checkAnswer(t, s, at, true, key, nothing)
		}
	}
}

func TestNothingAtTheEnd(t *testing.T) {
	for _, s := range append(samples(), "(a", "\"a", "a\n\"b\"") {
		for _, key := range allKeys {
			for _, at := range []int{len(s), len(s) + 1, math.MaxInt} {
				checkAnswer(t, s, at, false, key, nothing)
				checkAnswer(t, s, at, true, key, nothing)
			}
		}
	}
}

// eachFound gives all objects in many strings, as they are inside and around, with the beginning of the character from which they were found.
func eachFound(t *testing.T, keys string, each func(s string, a int, inside, around part)) {
	t.Helper()
	some := samples()
	eachString([]string{"\n", "a", " ", ".", "\xff", "\u00e9"}, 4, func(s string) { some = append(some, s) })
	eachString([]string{"(", ")", "[", "]", "a", "{", "}"}, 4, func(s string) { some = append(some, s) })
	eachString([]string{"\"", "'", "a", "\n"}, 5, func(s string) { some = append(some, s) })
	seen := map[rune]int{}
	for _, s := range some {
		for a := range s {
			for _, key := range keys {
				from, to, ok := Find(s, a, false, key)
				from2, to2, ok2 := Find(s, a, true, key)
				if ok != ok2 {
					t.Fatalf("%q, %c from %d: inside %t, around %t", s, key, a, ok, ok2)
				}
				if ok {
					seen[key]++
					each(s, a, part{from, to, 0}, part{from2, to2, 0})
				}
			}
		}
	}
	for _, key := range keys {
		if seen[key] < 100 {
			t.Errorf("%c was found only %d times", key, seen[key])
		}
	}
}

// P13.2

func TestRows(t *testing.T) {
	eachFound(t, "w", func(s string, a int, inside, around part) {
		if inside.from > a || a >= inside.to || around.from > inside.from || around.to < inside.to {
			t.Fatalf("%q from %d: inside %v, around %v", s, a, inside, around)
		}
		r, _ := utf8.DecodeRuneInString(s[a:])
		for _, other := range s[inside.from:inside.to] {
			if classOf(other) != classOf(r) {
				t.Fatalf("%q from %d: %q is in one row with %q", s, a, other, r)
			}
		}
		before, n := utf8.DecodeLastRuneInString(s[:inside.from])
		after, m := utf8.DecodeRuneInString(s[inside.to:])
		if n > 0 && classOf(before) == classOf(r) || m > 0 && classOf(after) == classOf(r) {
			t.Fatalf("%q from %d: the row %v is not the whole row", s, a, inside)
		}
	})
}

// P13.3

func TestBracketsAreBalanced(t *testing.T) {
	eachFound(t, bracketKeys, func(s string, a int, inside, around part) {
		opening, closing := s[around.from:inside.from], s[inside.to:around.to]
		if i := strings.Index("([{", opening); len(opening) != 1 || i < 0 || closing != ")]}"[i:i+1] {
			t.Fatalf("%q from %d: %q and %q", s, a, opening, closing)
		}
		if around.from > a || a >= around.to {
			t.Fatalf("%q from %d: %v", s, a, around)
		}
		depth := 0
		for at := inside.from; at < inside.to; at++ {
			depth += strings.Count(s[at:at+1], opening) - strings.Count(s[at:at+1], closing)
			if depth < 0 {
				t.Fatalf("%q from %d: more close than open in %v", s, a, inside)
			}
		}
		if depth != 0 {
			t.Fatalf("%q from %d: more open than close in %v", s, a, inside)
		}
	})
}

// P13.4

func TestQuotesAreNext(t *testing.T) {
	eachFound(t, "\"'", func(s string, a int, inside, around part) {
		opening, closing := s[around.from:inside.from], s[inside.to:around.to]
		if opening != closing || opening != "\"" && opening != "'" {
			t.Fatalf("%q from %d: %q and %q", s, a, opening, closing)
		}
		if strings.ContainsAny(s[inside.from:inside.to], opening+"\n") || a >= around.to {
			t.Fatalf("%q from %d: %v", s, a, inside)
		}
	})
}

// Rules

func TestSameArgumentsSameAnswer(t *testing.T) {
	for _, s := range samples() {
		for _, key := range allKeys {
			from, to, ok := Find(s, 1, true, key)
			Find("((other \"text\n\"", 3, false, 'w')
			Find("[[[(((", 5, false, key)
			if from2, to2, ok2 := Find(s, 1, true, key); from2 != from || to2 != to || ok2 != ok {
				t.Errorf("%q, %c: %d, %d and %d, %d", s, key, from, to, from2, to2)
			}
		}
	}
}

// A text of layer 4 has at most 4096 bytes, but a string may have more.
func TestLongStrings(t *testing.T) {
	const n = 100000
	nested := strings.Repeat("(", n) + strings.Repeat(")", n)
	checkEach(t, []one{
		{nested, []int{0, 2*n - 1}, 'b', part{1, 2*n - 1, 0}, part{0, 2 * n, 0}},
		{nested, []int{n - 1, n}, 'b', part{n, n, 0}, part{n - 1, n + 1, 0}},
		{nested, []int{n / 2}, 'b', part{n/2 + 1, 2*n - n/2 - 1, 0}, part{n / 2, 2*n - n/2, 0}},
		{strings.Repeat("(", n), []int{0, n - 1}, 'b', nothing, nothing},
		{strings.Repeat(")", n), []int{0, n - 1}, 'b', nothing, nothing},
		{strings.Repeat("\u00e9", n), []int{0, n, 2*n - 1}, 'w', part{0, 2 * n, 0}, part{0, 2 * n, 0}},
		{strings.Repeat("\xff", n) + " ", []int{0, n - 1}, 'w', part{0, n, 0}, part{0, n + 1, 0}},
		{strings.Repeat("'\n", n), []int{0, n, 2*n - 1}, '\'', nothing, nothing},
		{strings.Repeat("'", n), []int{n - 2, n - 1}, '\'', part{n - 1, n - 1, 0}, part{n - 2, n, 0}},
		{strings.Repeat("\n", n) + "\"a\"", []int{n}, '"', part{n + 1, n + 2, 0}, part{n, n + 3, 0}},
	})
}
