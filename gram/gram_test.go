package gram

import (
	"math"
	"math/rand"
	"slices"
	"strconv"
	"strings"
	"testing"
)

// The chapter's own words, written out as rows of places, in another way than the program's.

// place is where one key stands, or a count.
type place struct {
	field byte   // what the key tells: R, V, M, A; C: a count stands here; -: nothing
	keys  string // those that may stand here
}

const (
	anyCharacter = "any character"
	digits       = "0 1 2 3 4 5 6 7 8 9"
	small        = "a b c d e f g h i j k l m n o p q r s t u v w x y z"
	capitals     = "A B C D E F G H I J K L M N O P Q R S T U V W X Y Z"
	names        = small + " " + capitals + " " + digits + " \" - _"
	simple       = "h l j k 0 ^ $ w b e G { }"
	finding      = "f F t T"
	objectKeys   = "w b ( ) [ ] { } B \" '"
	operatorKeys = "d y c > <"
	normalKeys   = "i a I A o O x X p P u . J v V : ~ \x12 \x1b"
	visualKeys   = "d y c > < x J ~ o v V : \x1b"
)

// may: is a key one of those that may stand at the place?
func (p place) may(key rune) bool {
	if p.keys == anyCharacter {
		return key > 31
	}
	return key != ' ' && strings.ContainsRune(p.keys, key)
}

// motions are the rows of a motion whose first key tells a field.
func motions(field byte) [][]place {
	return [][]place{
		{{field, simple}},
		{{field, "g"}, {'-', "g"}},
		{{field, finding}, {'A', anyCharacter}},
	}
}

// reaches are the rows of what may follow an operator and its count.
func reaches(operator string) [][]place {
	return append(motions('M'), []place{{'M', operator}}, []place{{'M', "i a"}, {'A', objectKeys}})
}

// verbs are the rows of what may follow a register and a count.
func verbs(visual bool) [][]place {
	all := motions('V')
	if visual {
		return append(all, []place{{'V', visualKeys}}, []place{{'V', "i a"}, {'A', objectKeys}})
	}
	all = append(all, []place{{'V', normalKeys}}, []place{{'V', "r"}, {'A', anyCharacter}}, []place{{'V', "q @"}, {'A', small}})
	for _, operator := range strings.Fields(operatorKeys) {
		for _, reach := range reaches(operator) {
			all = append(all, append([]place{{'V', operator}}, reach...))
			all = append(all, append([]place{{'V', operator}, {'C', digits}}, reach...))
		}
	}
	return all
}

// grammar is all rows of one kind of mode.
func grammar(visual bool) [][]place {
	register, count := []place{{'-', "\""}, {'R', names}}, []place{{'C', digits}}
	var rows [][]place
	for _, verb := range verbs(visual) {
		rows = append(rows, verb, slices.Concat(count, verb), slices.Concat(register, verb), slices.Concat(register, count, verb))
	}
	return rows
}

// number is a count's value.
func number(keys []rune) int {
	if len(keys) > 3 {
		return 999
	}
	value, _ := strconv.Atoi(string(keys))
	return value
}

// along follows a row as far as it goes.
func along(row []place, l []rune) (cmd Cmd, n, state int) {
	for _, p := range row {
		if n == len(l) {
			return Cmd{}, 0, More
		}
		if !p.may(l[n]) || p.field == 'C' && l[n] == '0' {
			return Cmd{}, n + 1, Bad
		}
		key := l[n]
		n++
		switch p.field {
		case 'R':
			cmd.Reg = key
		case 'V':
			cmd.Verb = key
		case 'M':
			cmd.Move = key
		case 'A':
			cmd.Arg = key
		case 'C':
			from := n - 1
			for n < len(l) && p.may(l[n]) {
				n++
			}
			if n == len(l) {
				return Cmd{}, 0, More // another digit may follow
			}
			value := number(l[from:n])
			if cmd.Count > 0 {
				value *= cmd.Count
			}
			cmd.Count = min(value, 999)
		}
	}
	return cmd, n, Whole
}

// told is what P11.2 says of keys, by all rows.
func told(t *testing.T, rows [][]place, l []rune) (cmd Cmd, n, state int) {
	state = Bad
	for _, row := range rows {
		c, m, s := along(row, l)
		switch {
		case s == Bad && state == Bad:
			n = max(n, m)
		case s == Bad:
		case state == Bad:
			cmd, n, state = c, m, s
		case s != state || c != cmd || m != n:
			t.Fatalf("the chapter's grammar has two meanings for %q", l)
		}
	}
	return cmd, n, state
}

// edges are numbers at the ends of what is a key, and some that look like keys if a part of them is cut off.
func edges() []rune {
	l := []rune{math.MinInt32, math.MinInt32 + 'd', math.MinInt32 + '1', -0x10000, -256 + 'd', -'d', -'1', -27, -18, -1, 128, 0x9F, 0xA0, 0xE9, 0xFF, 0x661, 0xFF11, 0xD7FF, 0xD800, 0xDFFF, 0xE000, 0xFFFD, 0xFFFF, 0x10000, 0x10FFFF, 0x110000, math.MaxInt32 - 1, math.MaxInt32}
	for _, key := range "\"d0129gfriaq@wx\x12\x1b" {
		l = append(l, 256+key, 0x10000+key, 0x1000000+key)
	}
	return l
}

// everyKey is each number up to 127 that is 0 or more, and the edges.
func everyKey() []rune {
	l := edges()
	for key := range rune(128) {
		l = append(l, key)
	}
	return l
}

func check(t *testing.T, l []rune, visual bool, cmd Cmd, n, state int) {
	t.Helper()
	given := slices.Clone(l)
	if c, m, s := Parse(l, visual); c != cmd || m != n || s != state {
		t.Errorf("Parse(%.20q of %d, %v) = %v, %d, %d; not %v, %d, %d", l, len(l), visual, c, m, s, cmd, n, state)
	}
	if !slices.Equal(l, given) {
		t.Errorf("Parse(%.20q of %d, %v) has written to it: %.20q", given, len(l), visual, l)
	}
}

// walk goes through all keys that begin a command, and one key more.
func walk(t *testing.T, visual bool, from []rune, most int) (seen [4]int) {
	rows := grammar(visual)
	var on func(l []rune)
	on = func(l []rune) {
		cmd, n, state := told(t, rows, l)
		check(t, l, visual, cmd, n, state)
		seen[state]++
		if state != More || len(l) == most {
			return
		}
		for _, key := range from {
			on(append(slices.Clone(l), key))
		}
	}
	on(nil)
	return seen
}

// random is a sequence of n keys, most of them such as commands consist of.
func random(chance *rand.Rand, n int) []rune {
	from := append([]rune("\"\"\"ddccyy<>giafFtTrq@12034567890wbhljk$^G{}B()[]'xXpPuJvV:~.oOIA\x12\x1b-_zZ!"), edges()...)
	l := make([]rune, n)
	for i := range l {
		l[i] = from[chance.Intn(len(from))]
	}
	return l
}

// spelt is what a command says, without register and count, and its keys.
type spelt struct {
	cmd  Cmd
	keys []rune
}

// someCharacters are character keys at the ends of what is one, and such as are other keys elsewhere.
func someCharacters() []rune {
	return []rune{32, '!', '"', '0', '5', 'a', 'd', 'g', 'z', '~', 127, 128, 0xE9, 0xD800, 0xDFFF, 0xFFFD, 0x10FFFF, 0x110000, math.MaxInt32}
}

// keysOf are the keys of a list of the chapter.
func keysOf(list string) []rune { return []rune(strings.Join(strings.Fields(list), "")) }

// speltMotions are all motions, with some of the character keys.
func speltMotions() (l []spelt) {
	for _, key := range keysOf(simple) {
		l = append(l, spelt{Cmd{Verb: key}, []rune{key}})
	}
	l = append(l, spelt{Cmd{Verb: 'g'}, []rune("gg")})
	for _, key := range keysOf(finding) {
		for _, arg := range someCharacters() {
			l = append(l, spelt{Cmd{Verb: key, Arg: arg}, []rune{key, arg}})
		}
	}
	return l
}

// speltObjects are all objects.
func speltObjects() (l []spelt) {
	for _, kind := range []rune("ia") {
		for _, arg := range keysOf(objectKeys) {
			l = append(l, spelt{Cmd{Verb: kind, Arg: arg}, []rune{kind, arg}})
		}
	}
	return l
}

// speltOperators are all operators with all that may follow them.
func speltOperators() (l []spelt) {
	for _, verb := range keysOf(operatorKeys) {
		l = append(l, spelt{Cmd{Verb: verb, Move: verb}, []rune{verb, verb}})
		for _, s := range append(speltMotions(), speltObjects()...) {
			l = append(l, spelt{Cmd{Verb: verb, Move: s.cmd.Verb, Arg: s.cmd.Arg}, append([]rune{verb}, s.keys...)})
		}
	}
	return l
}

// speltCommands are all commands of one kind of mode without register and count, with some of the character keys.
func speltCommands(visual bool) []spelt {
	l, alone := speltMotions(), normalKeys
	if visual {
		l, alone = append(l, speltObjects()...), visualKeys
	} else {
		l = append(l, speltOperators()...)
		for _, arg := range someCharacters() {
			l = append(l, spelt{Cmd{Verb: 'r', Arg: arg}, []rune{'r', arg}})
		}
		for _, arg := range keysOf(small) {
			l = append(l, spelt{Cmd{Verb: 'q', Arg: arg}, []rune{'q', arg}}, spelt{Cmd{Verb: '@', Arg: arg}, []rune{'@', arg}})
		}
	}
	for _, key := range keysOf(alone) {
		l = append(l, spelt{Cmd{Verb: key}, []rune{key}})
	}
	return l
}

// takesCount: may a count stand ahead of the verb? A 0 would continue it.
func (s spelt) takesCount() bool { return s.cmd.Verb != '0' }

// withCount is a command with a count ahead of its verb.
func (s spelt) withCount(count int) spelt {
	s.cmd.Count = count
	s.keys = slices.Concat([]rune(strconv.Itoa(count)), s.keys)
	return s
}

// withRegister is a command with a register's name ahead of it.
func (s spelt) withRegister(name rune) spelt {
	s.cmd.Reg = name
	s.keys = slices.Concat([]rune{'"', name}, s.keys)
	return s
}

func checkSpelt(t *testing.T, s spelt, visual bool) {
	t.Helper()
	check(t, s.keys, visual, s.cmd, len(s.keys), Whole)
}

// P11.1

func TestMotionAndOperator(t *testing.T) {
	is := func(key rune) {
		if want := slices.Contains([]rune("hljk0^$wbeG{}gfFtT"), key); Motion(key) != want {
			t.Errorf("Motion(%d) = %v", key, !want)
		}
		if want := slices.Contains([]rune("dyc><"), key); Operator(key) != want {
			t.Errorf("Operator(%d) = %v", key, !want)
		}
	}
	for key := rune(-0x200); key <= 0x110200; key++ {
		is(key)
	}
	for _, key := range edges() {
		is(key)
	}
}

// P11.2

func TestStates(t *testing.T) {
	if Whole != 1 || More != 2 || Bad != 3 {
		t.Error("Whole, More, Bad =", Whole, More, Bad)
	}
}

func TestExamples(t *testing.T) {
	for _, c := range []struct {
		keys   string
		visual bool
		cmd    Cmd
		n      int
		state  int
	}{
		{"", false, Cmd{}, 0, More},
		{"", true, Cmd{}, 0, More},
		{"d2w", false, Cmd{Verb: 'd', Move: 'w', Count: 2}, 3, Whole},
		{"2d3w", false, Cmd{Verb: 'd', Move: 'w', Count: 6}, 4, Whole},
		{"\"ayy", false, Cmd{Reg: 'a', Verb: 'y', Move: 'y'}, 4, Whole},
		{"diw", false, Cmd{Verb: 'd', Move: 'i', Arg: 'w'}, 3, Whole},
		{"10j", false, Cmd{Count: 10, Verb: 'j'}, 3, Whole},
		{"0", false, Cmd{Verb: '0'}, 1, Whole},
		{"0", true, Cmd{Verb: '0'}, 1, Whole},
		{"00", false, Cmd{Verb: '0'}, 1, Whole},
		{"d0", false, Cmd{Verb: 'd', Move: '0'}, 2, Whole},
		{"d10", false, Cmd{}, 0, More},
		{"10", false, Cmd{}, 0, More},
		{"100", true, Cmd{}, 0, More},
		{"\"a0", false, Cmd{Reg: 'a', Verb: '0'}, 3, Whole},
		{"\"00", false, Cmd{Reg: '0', Verb: '0'}, 3, Whole},
		{"\"10", false, Cmd{Reg: '1', Verb: '0'}, 3, Whole},
		{"\"1", false, Cmd{}, 0, More},
		{"\"\"2x", false, Cmd{Reg: '"', Count: 2, Verb: 'x'}, 4, Whole},
		{"\"a2d0", false, Cmd{Reg: 'a', Count: 2, Verb: 'd', Move: '0'}, 5, Whole},
		{"gg", false, Cmd{Verb: 'g'}, 2, Whole},
		{"gx", false, Cmd{}, 2, Bad},
		{"dgg", false, Cmd{Verb: 'd', Move: 'g'}, 3, Whole},
		{"dg2", false, Cmd{}, 3, Bad},
		{"d", false, Cmd{}, 0, More},
		{"fx", false, Cmd{Verb: 'f', Arg: 'x'}, 2, Whole},
		{"f\x1b", false, Cmd{}, 2, Bad},
		{"f\x1b", true, Cmd{}, 2, Bad},
		{"f\x1f", false, Cmd{}, 2, Bad},
		{"f ", false, Cmd{Verb: 'f', Arg: ' '}, 2, Whole},
		{"T\x7f", true, Cmd{Verb: 'T', Arg: 127}, 2, Whole},
		{"\"!", false, Cmd{}, 2, Bad},
		{"2\"a", false, Cmd{}, 2, Bad},
		{"\"a\"b", false, Cmd{}, 3, Bad},
		{"di\"", false, Cmd{Verb: 'd', Move: 'i', Arg: '"'}, 3, Whole},
		{"d\"", false, Cmd{}, 2, Bad},
		{"dy", false, Cmd{}, 2, Bad},
		{">>", false, Cmd{Verb: '>', Move: '>'}, 2, Whole},
		{"><", false, Cmd{}, 2, Bad},
		{"d3d", false, Cmd{Verb: 'd', Move: 'd', Count: 3}, 3, Whole},
		{"d2i", false, Cmd{}, 0, More},
		{"d2ix", false, Cmd{}, 4, Bad},
		{"c4t3", false, Cmd{Verb: 'c', Move: 't', Arg: '3', Count: 4}, 4, Whole},
		{"r\x1b", false, Cmd{}, 2, Bad},
		{"r\r", false, Cmd{}, 2, Bad},
		{"3ra", false, Cmd{Count: 3, Verb: 'r', Arg: 'a'}, 3, Whole},
		{"q", false, Cmd{}, 0, More},
		{"qA", false, Cmd{}, 2, Bad},
		{"q0", false, Cmd{}, 2, Bad},
		{"2@a", false, Cmd{Count: 2, Verb: '@', Arg: 'a'}, 3, Whole},
		{"@@", false, Cmd{}, 2, Bad},
		{"i", false, Cmd{Verb: 'i'}, 1, Whole},
		{"i", true, Cmd{}, 0, More},
		{"iw", true, Cmd{Verb: 'i', Arg: 'w'}, 2, Whole},
		{"\"x2aB", true, Cmd{Reg: 'x', Count: 2, Verb: 'a', Arg: 'B'}, 5, Whole},
		{"ix", true, Cmd{}, 2, Bad},
		{"d", true, Cmd{Verb: 'd'}, 1, Whole},
		{"3d2w", true, Cmd{Verb: 'd', Count: 3}, 2, Whole},
		{"p", true, Cmd{}, 1, Bad},
		{"r", true, Cmd{}, 1, Bad},
		{"q", true, Cmd{}, 1, Bad},
		{"u", true, Cmd{}, 1, Bad},
		{"o", true, Cmd{Verb: 'o'}, 1, Whole},
		{"\x12", true, Cmd{}, 1, Bad},
		{"\x12", false, Cmd{Verb: 18}, 1, Whole},
		{"\x1b", false, Cmd{Verb: 27}, 1, Whole},
		{"\x1b", true, Cmd{Verb: 27}, 1, Whole},
		{"2\x1b", true, Cmd{Verb: 27, Count: 2}, 2, Whole},
		{"d\x1b", false, Cmd{}, 2, Bad},
		{"\"\x1b", false, Cmd{}, 2, Bad},
		{"\x00", false, Cmd{}, 1, Bad},
		{"\n", true, Cmd{}, 1, Bad},
		{"\u0661j", false, Cmd{}, 1, Bad},
	} {
		check(t, []rune(c.keys), c.visual, c.cmd, c.n, c.state)
	}
}

// TestEachKeyWhereItMayStand puts each number at each place of each command of a few keys.
func TestEachKeyWhereItMayStand(t *testing.T) {
	for _, visual := range []bool{false, true} {
		seen := walk(t, visual, everyKey(), 4)
		if seen[Whole] < 1000 || seen[More] < 500 || seen[Bad] < 10000 {
			t.Errorf("visual %v: only %v were seen", visual, seen)
		}
	}
}

// TestLongerCommands goes through all keys of at most seven over some that stand for all.
func TestLongerCommands(t *testing.T) {
	from := []rune{'"', 'a', '0', '2', '9', 'd', '>', 'g', 'T', 'w', 'r', '@', ' ', 27}
	for _, visual := range []bool{false, true} {
		seen := walk(t, visual, from, 7)
		if seen[Whole] < 1000 || seen[More] < 1000 || seen[Bad] < 1000 {
			t.Errorf("visual %v: only %v were seen", visual, seen)
		}
	}
}

func TestRandomKeys(t *testing.T) {
	chance := rand.New(rand.NewSource(112))
	for _, visual := range []bool{false, true} {
		rows := grammar(visual)
		for range 20000 {
			l := random(chance, chance.Intn(12))
			cmd, n, state := told(t, rows, l)
			check(t, l, visual, cmd, n, state)
		}
	}
}

func TestNoKeys(t *testing.T) {
	for _, visual := range []bool{false, true} {
		check(t, nil, visual, Cmd{}, 0, More)
		check(t, []rune{}, visual, Cmd{}, 0, More)
		for _, key := range edges() {
			check(t, []rune{key}, visual, Cmd{}, 1, Bad)
			check(t, []rune{key, 'w'}, visual, Cmd{}, 1, Bad)
			check(t, []rune{'2', key, 'w'}, visual, Cmd{}, 2, Bad)
			check(t, []rune{'"', key, 'w'}, visual, Cmd{}, 2, Bad)
			check(t, []rune{'g', key, 'g'}, visual, Cmd{}, 2, Bad)
		}
	}
}

func TestCharacterKeys(t *testing.T) {
	for _, key := range append(everyKey(), someCharacters()...) {
		for _, before := range []string{"f", "F", "t", "T", "3f", "r", "\"ar", "df", "y2T"} {
			l := append([]rune(before), key)
			_, n, state := Parse(l, false)
			want := Bad
			if key >= 32 {
				want = Whole
			}
			if n != len(l) || state != want {
				t.Errorf("Parse(%q) = %d, %d", l, n, state)
			}
		}
	}
}

// P11.3

func TestKeysBehindAreNotRead(t *testing.T) {
	chance := rand.New(rand.NewSource(113))
	for range 20000 {
		visual := chance.Intn(2) == 0
		l := random(chance, 1+chance.Intn(10))
		cmd, n, state := Parse(l, visual)
		if state == More {
			n = len(l) + 1
		}
		for m := range n {
			check(t, l[:m], visual, Cmd{}, 0, More)
		}
		if state == More {
			continue
		}
		check(t, l[:n], visual, cmd, n, state)
		for range 3 {
			check(t, slices.Concat(l[:n], random(chance, chance.Intn(5))), visual, cmd, n, state)
		}
	}
}

func TestKeysOnEndBegunCommands(t *testing.T) {
	for _, visual := range []bool{false, true} {
		for _, s := range speltCommands(visual) {
			if s.takesCount() {
				s = s.withCount(20)
			}
			s = s.withRegister('Z')
			for n := range s.keys {
				check(t, s.keys[:n], visual, Cmd{}, 0, More)
			}
			for _, more := range []string{"0", "d", "\"", "\x1b", "w5"} {
				check(t, slices.Concat(s.keys, []rune(more)), visual, s.cmd, len(s.keys), Whole)
			}
		}
	}
}

// P11.4

func TestEveryCommandIsTold(t *testing.T) {
	for _, visual := range []bool{false, true} {
		for _, s := range speltCommands(visual) {
			checkSpelt(t, s, visual)
			for _, name := range keysOf(names) {
				checkSpelt(t, s.withRegister(name), visual)
				if !s.takesCount() {
					continue
				}
				for _, count := range []int{1, 2, 9, 10, 100, 999} {
					checkSpelt(t, s.withCount(count).withRegister(name), visual)
				}
			}
		}
	}
}

func TestEveryCountIsTold(t *testing.T) {
	for _, visual := range []bool{false, true} {
		for _, s := range speltCommands(visual) {
			if !s.takesCount() {
				continue
			}
			for count := 1; count <= 999; count++ {
				checkSpelt(t, s.withCount(count), visual)
			}
		}
	}
}

func TestTwoCountsAreMultiplied(t *testing.T) {
	counts := []int{1, 2, 3, 9, 10, 31, 32, 99, 100, 333, 499, 500, 998, 999, 1000, 1001, 4096, 65536, 1 << 31, 1 << 32, math.MaxInt}
	for _, s := range speltOperators() {
		if s.cmd.Move == '0' {
			continue // it continues the inner count
		}
		for _, inner := range counts {
			keys := slices.Concat(s.keys[:1], []rune(strconv.Itoa(inner)), s.keys[1:])
			cmd := s.cmd
			cmd.Count = min(inner, 999)
			check(t, keys, false, cmd, len(keys), Whole)
			for _, outer := range counts {
				l := slices.Concat([]rune(strconv.Itoa(outer)), keys)
				cmd.Count = min(min(inner, 999)*min(outer, 999), 999)
				check(t, l, false, cmd, len(l), Whole)
			}
		}
	}
}

// P11.5

func TestCountsBeforeMotions(t *testing.T) {
	for _, visual := range []bool{false, true} {
		for _, s := range speltMotions() {
			if !s.takesCount() {
				continue
			}
			for count := 1; count <= 1100; count++ {
				c := s.withCount(count)
				c.cmd.Count = min(count, 999)
				checkSpelt(t, c, visual)
			}
		}
	}
}

func TestCountsOfManyDigits(t *testing.T) {
	const n = 1 << 20
	for _, visual := range []bool{false, true} {
		for _, digit := range []rune("159") {
			l := slices.Repeat([]rune{digit}, n)
			check(t, l, visual, Cmd{}, 0, More)
			check(t, append(l, 'j', '7'), visual, Cmd{Verb: 'j', Count: 999}, n+1, Whole)
			check(t, append(l, '0', '0', 'G'), visual, Cmd{Verb: 'G', Count: 999}, n+3, Whole)
			check(t, append(l, 'z'), visual, Cmd{}, n+1, Bad)
			check(t, append(l, '"'), visual, Cmd{}, n+1, Bad)
		}
	}
	twice := slices.Concat(slices.Repeat([]rune("8"), n), []rune("d"), slices.Repeat([]rune("7"), n))
	check(t, twice, false, Cmd{}, 0, More)
	check(t, append(twice, 'd'), false, Cmd{Verb: 'd', Move: 'd', Count: 999}, 2*n+2, Whole)
	check(t, append(twice, 'y'), false, Cmd{}, 2*n+2, Bad)
}
