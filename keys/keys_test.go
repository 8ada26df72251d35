package keys

import (
	"math"
	"math/rand"
	"slices"
	"strings"
	"testing"

	"bureau/api"
)

// The chapter's own words, written out, in another way than the program's.

// written forms of the keys that are no characters, and of the one that begins them, in the order of their numbers.
const (
	controls = "<C-a> <C-b> <C-c> <C-d> <C-e> <C-f> <C-g> <BS> <Tab> <C-j> <C-k> <C-l> <CR> <C-n> <C-o> <C-p> <C-q> <C-r> <C-s> <C-t> <C-u> <C-v> <C-w> <C-x> <C-y> <C-z> <Esc>"
	less     = "<lt>"
)

// encoding is a rune's encoding, written out bit by bit.
func encoding(r rune) string {
	rest := func(shift int) byte { return byte(0x80 | r>>shift&0x3F) }
	switch {
	case r < 0x80:
		return string([]byte{byte(r)})
	case r < 0x800:
		return string([]byte{byte(0xC0 | r>>6), rest(0)})
	case r < 0x10000:
		return string([]byte{byte(0xE0 | r>>12), rest(6), rest(0)})
	}
	return string([]byte{byte(0xF0 | r>>18), rest(12), rest(6), rest(0)})
}

// forms are all keys with their written forms.
func forms() map[rune]string {
	all := map[rune]string{}
	for i, form := range strings.Fields(controls) {
		all[rune(i+1)] = form
	}
	for r := rune(' '); r <= 0x10FFFF; r++ {
		if r != 0x7F && (r < 0xD800 || 0xDFFF < r) {
			all[r] = encoding(r)
		}
	}
	all[60] = less
	return all
}

// reader tells texts by going through the written forms of all keys.
type reader map[string]rune

func newReader() reader {
	all := reader{}
	for key, form := range forms() {
		all[form] = key
	}
	return all
}

// splits are all ways in which a text is a concatenation of written forms.
func (all reader) splits(s string) [][]rune {
	if s == "" {
		return [][]rune{nil}
	}
	var ways [][]rune
	for n := 1; n <= min(5, len(s)); n++ {
		key, ok := all[s[:n]]
		if !ok {
			continue
		}
		for _, way := range all.splits(s[n:]) {
			ways = append(ways, append([]rune{key}, way...))
		}
	}
	return ways
}

// noKeys are runes that are no keys, at the ends of what is none and beyond.
func noKeys() []rune {
	return []rune{math.MinInt32, math.MinInt32 + 'a', -0x110000, -0xD800, -256, -'a', -32, -27, -2, -1, 0, 28, 29, 30, 31, 127, 0xD800, 0xD801, 0xDBFF, 0xDC00, 0xDFFE, 0xDFFF, 0x110000, 0x110001, 0x110000 + 'a', 0x200000, math.MaxInt32 - 1, math.MaxInt32}
}

// someKeys are keys of each kind, and those at the ends of the kinds.
func someKeys() []rune {
	l := []rune{32, 33, '#', '-', '/', '0', '9', ':', ';', '<', '=', '>', '?', 'A', 'B', 'C', 'E', 'M', 'R', 'S', 'T', 'Z', '[', '`', 'a', 'b', 'c', 'l', 'm', 's', 't', 'z', '{', 126, 128, 0x9F, 0xA0, 0xE9, 0x7FF, 0x800, 0x20AC, 0xD7FF, 0xE000, 0xFFFC, 0xFFFD, 0xFFFE, 0xFFFF, 0x10000, 0x1F600, 0x10FFFE, 0x10FFFF}
	for key := rune(1); key <= 27; key++ {
		l = append(l, key)
	}
	return l
}

// random is a sequence of n keys.
func random(chance *rand.Rand, n int) []rune {
	from := someKeys()
	l := make([]rune, n)
	for i := range l {
		l[i] = from[chance.Intn(len(from))]
	}
	return l
}

func checkPrint(t *testing.T, l []rune, want string, wrong api.Errno) {
	t.Helper()
	given := slices.Clone(l)
	if s, e := Print(l); s != want || e != wrong {
		t.Errorf("Print(%.20v of %d) = %.60q, %d", l, len(l), s, e)
	}
	if !slices.Equal(l, given) {
		t.Errorf("Print(%v) has written to it: %v", given, l)
	}
}

func checkParse(t *testing.T, s string, want []rune, wrong api.Errno) {
	t.Helper()
	if l, e := Parse(s); !slices.Equal(l, want) || e != wrong {
		t.Errorf("Parse(%.60q of %d) = %.20v, %d", s, len(s), l, e)
	}
}

// P10.1

func TestMay(t *testing.T) {
	all := forms()
	for r := rune(-0x200); r <= 0x110200; r++ {
		if _, want := all[r]; May(r) != want {
			t.Errorf("May(%#x) = %v", r, !want)
		}
	}
	for _, r := range noKeys() {
		if May(r) {
			t.Errorf("May(%#x)", r)
		}
	}
	for _, r := range someKeys() {
		if !May(r) {
			t.Errorf("not May(%#x)", r)
		}
	}
}

// P10.2

func TestPrintExamples(t *testing.T) {
	checkPrint(t, nil, "", api.OK)
	checkPrint(t, []rune{}, "", api.OK)
	checkPrint(t, []rune{':', 'w', 13}, ":w<CR>", api.OK)
	checkPrint(t, []rune{60, 27, 1, 18}, "<lt><Esc><C-a><C-r>", api.OK)
	checkPrint(t, []rune{8, 9, 10, 26}, "<BS><Tab><C-j><C-z>", api.OK)
	checkPrint(t, []rune("d2w"), "d2w", api.OK)
	checkPrint(t, []rune{'a', '>', 0xE9, 0xFFFD, ' '}, "a>\u00e9\ufffd ", api.OK)
	checkPrint(t, []rune("<Esc>"), "<lt>Esc>", api.OK)
	checkPrint(t, []rune{0x80, 0x9F, 0x10FFFF}, "\u0080\u009f\U0010ffff", api.OK)
}

func TestPrintOfEachKey(t *testing.T) {
	for key, form := range forms() {
		if s, e := Print([]rune{key}); s != form || e != api.OK {
			t.Errorf("Print(%#x) = %q, %d", key, s, e)
		}
	}
}

func TestPrintOfNoKeys(t *testing.T) {
	for _, r := range noKeys() {
		checkPrint(t, []rune{r}, "", api.ErrArg)
		checkPrint(t, []rune{r, 'a'}, "", api.ErrArg)
		checkPrint(t, []rune{'a', 13, r}, "", api.ErrArg)
		checkPrint(t, append(slices.Repeat([]rune{'a'}, 255), r), "", api.ErrArg)
	}
}

func TestPrintOfManyKeys(t *testing.T) {
	for _, n := range []int{1, 2, 255, 256} {
		checkPrint(t, slices.Repeat([]rune{'a'}, n), strings.Repeat("a", n), api.OK)
		checkPrint(t, slices.Repeat([]rune{27}, n), strings.Repeat("<Esc>", n), api.OK)
		checkPrint(t, slices.Repeat([]rune{0x1F600}, n), strings.Repeat("\U0001f600", n), api.OK)
	}
	for _, n := range []int{257, 258, 512, 5000} {
		checkPrint(t, slices.Repeat([]rune{'a'}, n), "", api.ErrBig)
	}
}

func TestPrintNamesTooManyFirst(t *testing.T) {
	for _, r := range noKeys() {
		checkPrint(t, slices.Repeat([]rune{r}, 257), "", api.ErrBig)
		checkPrint(t, append(slices.Repeat([]rune{'a'}, 256), r), "", api.ErrBig)
		checkPrint(t, append([]rune{r}, slices.Repeat([]rune{'a'}, 256)...), "", api.ErrBig)
	}
}

// P10.3

func TestParseExamples(t *testing.T) {
	checkParse(t, "", nil, api.OK)
	checkParse(t, "d2w", []rune("d2w"), api.OK)
	checkParse(t, ":w<CR>", []rune{':', 'w', 13}, api.OK)
	checkParse(t, "<lt><Esc><C-a><C-r>", []rune{60, 27, 1, 18}, api.OK)
	checkParse(t, "<BS><Tab>", []rune{8, 9}, api.OK)
	checkParse(t, "a>\u00e9>", []rune{'a', '>', 0xE9, '>'}, api.OK)
	checkParse(t, "<lt>Esc>", []rune("<Esc>"), api.OK)
	checkParse(t, "<lt>lt>", []rune("<lt>"), api.OK)
	checkParse(t, "<CR>>", []rune{13, '>'}, api.OK)
	checkParse(t, "Esc>lt>CR>C-a>", []rune("Esc>lt>CR>C-a>"), api.OK)
	checkParse(t, "\ufffd", []rune{0xFFFD}, api.OK)
	checkParse(t, "\u0080\u009f", []rune{0x80, 0x9F}, api.OK)
}

func TestParseOfEachKey(t *testing.T) {
	for key, form := range forms() {
		if l, e := Parse(form); !slices.Equal(l, []rune{key}) || e != api.OK {
			t.Errorf("Parse(%q) = %v, %d", form, l, e)
		}
	}
}

// misspelt are texts that are no written form, nor the beginning of a longer one with what may follow.
func misspelt() []string {
	return []string{
		"<", "<<", "<>", "<lt", "<l", "<l>", "<lt ", "<lt<", "<LT>", "<Lt>", "<lt >", "< lt>", "<less>", "<gt>", "<<lt>",
		"<E", "<Es", "<Esc", "<esc>", "<ESC>", "<Esc >", "< Esc>", "<Esc<", "<Escape>", "<C-[>", "<C-{>", "<27>",
		"<C", "<CR", "<CR<", "<cr>", "<Cr>", "<Enter>", "<Return>", "<NL>", "<CR >", "<C-m>", "<C-M>", "<C-J>",
		"<B", "<BS", "<bs>", "<Bs>", "<C-h>", "<C-H>", "<T", "<Ta", "<Tab", "<tab>", "<TAB>", "<C-i>", "<C-I>",
		"<C-", "<C->", "<C-a", "<C-a<", "<C-a ", "<C-ab>", "<C-aa>", "<C-A>", "<C-Z>", "<c-a>", "<Ca>", "<C_a>", "<C--a>", "<C-a >", "< C-a>", "<C- a>", "<^a>",
		"<C-1>", "<C-@>", "<C-`>", "<C-?>", "<C-<>", "<C->>", "<C- >", "<C-|>", "<C-~>", "<C-\x01>", "<C-\x00>", "<C-\x7f>", "<C-\xff>", "<C-\u00e1>", "<C-\u0430>", "<C-\ufffd>",
		"<Space>", "<Del>", "<Nul>", "<F1>", "<S-a>", "<M-a>", "<a>", "<Bar>", "<Bslash>", "<\u00e9>", "<\xff>", "<Es\u00e7>",
		"\x00", "\x01", "\x08", "\t", "\n", "\r", "\x1a", "\x1b", "\x1c", "\x1d", "\x1e", "\x1f", "\x7f",
		"\x80", "\xbf", "\xc3", "\xff", "\xc0\x80", "\xc1\xa1", "\xc3\x28", "\xe2\x82", "\xed\xa0\x80", "\xed\xbf\xbf", "\xef\xbf", "\xef\xbf\x28", "\xf0\x9f\x98", "\xf4\x90\x80\x80", "\xf5\x80\x80\x80", "\xe0\x80\xbc", "\xc0\xbc",
	}
}

func TestParseOfOtherSpellings(t *testing.T) {
	for _, s := range misspelt() {
		for _, text := range []string{s, "a" + s, s + "a", "<CR>" + s, s + "<CR>", "<lt>" + s, "\u00e9" + s, "\ufffd" + s, s + "\ufffd", s + s} {
			checkParse(t, text, nil, api.ErrForm)
		}
	}
}

func TestParseOfEachByteInANumbersForm(t *testing.T) {
	for b := range 256 {
		s := "<C-" + string([]byte{byte(b)}) + ">"
		want, wrong := []rune(nil), api.ErrForm
		if 'a' <= b && b <= 'z' && b != 'h' && b != 'i' && b != 'm' {
			want, wrong = []rune{rune(b - 0x60)}, api.OK
		}
		checkParse(t, s, want, wrong)
	}
}

// TestParseOfChangedForms changes each byte of the written forms, leaves it out, and puts one in.
func TestParseOfChangedForms(t *testing.T) {
	all := newReader()
	check := func(s string) {
		ways := all.splits(s)
		if len(ways) == 0 {
			checkParse(t, s, nil, api.ErrForm)
			return
		}
		checkParse(t, s, ways[0], api.OK)
	}
	for _, key := range someKeys() {
		form, _ := Print([]rune{key})
		for at := range len(form) {
			check(form[:at] + form[at+1:])
			for b := range 256 {
				other := string([]byte{byte(b)})
				check(form[:at] + other + form[at+1:])
				check(form[:at] + other + form[at:])
			}
		}
	}
}

// TestParseOfShortTexts goes through all texts of at most six bytes over those of which the names of some keys consist.
func TestParseOfShortTexts(t *testing.T) {
	all := newReader()
	n := 0
	var walk func(s string)
	walk = func(s string) {
		ways := all.splits(s)
		if len(ways) > 1 {
			t.Fatalf("%q has %d meanings", s, len(ways))
		}
		if len(ways) == 1 {
			checkParse(t, s, ways[0], api.OK)
			n++
		} else {
			checkParse(t, s, nil, api.ErrForm)
		}
		if len(s) == 6 {
			return
		}
		for _, part := range []string{"<", ">", "C", "-", "R", "a", "l", "t", "\xc3", "\xa9"} {
			walk(s + part)
		}
	}
	walk("")
	if n < 1000 {
		t.Errorf("only %d texts are concatenations of written forms", n)
	}
}

func TestParseOfManyKeys(t *testing.T) {
	for key, form := range map[rune]string{'a': "a", 27: "<Esc>", 1: "<C-a>", 60: "<lt>", 0xE9: "\u00e9", 0x1F600: "\U0001f600", 0xFFFD: "\ufffd"} {
		for _, n := range []int{1, 2, 255, 256} {
			checkParse(t, strings.Repeat(form, n), slices.Repeat([]rune{key}, n), api.OK)
		}
		for _, n := range []int{257, 258, 512, 5000} {
			checkParse(t, strings.Repeat(form, n), nil, api.ErrBig)
		}
	}
}

func TestParseNamesTheFormFirst(t *testing.T) {
	for _, s := range misspelt() {
		for _, n := range []int{256, 257, 1000} {
			checkParse(t, s+strings.Repeat("a", n), nil, api.ErrForm)
			checkParse(t, strings.Repeat("a", n)+s, nil, api.ErrForm)
			checkParse(t, strings.Repeat("<CR>", n)+s+strings.Repeat("<CR>", n), nil, api.ErrForm)
		}
	}
}

func TestParseOfLongTexts(t *testing.T) {
	const n = 1 << 20
	checkParse(t, strings.Repeat("<C-a>", n), nil, api.ErrBig)
	checkParse(t, strings.Repeat("<", n), nil, api.ErrForm)
	checkParse(t, "<"+strings.Repeat("a", n), nil, api.ErrForm)
	checkParse(t, "<"+strings.Repeat("a", n)+">", nil, api.ErrForm)
	checkParse(t, strings.Repeat("a", n)+"<", nil, api.ErrForm)
}

func TestParseAnswersNewMemory(t *testing.T) {
	for _, s := range []string{"ab", "<Esc><CR>", "<lt><C-a>"} {
		want, _ := Parse(s)
		spoilt, _ := Parse(s)
		spoilt[0] = 'X'
		_ = append(spoilt[:1], 'Y')
		checkParse(t, s, want, api.OK)
		if other, _ := Print(want); other != s {
			t.Errorf("Print(Parse(%q)) = %q after a write to another answer", s, other)
		}
	}
}

// P10.4

func TestBackFromKeys(t *testing.T) {
	chance := rand.New(rand.NewSource(10))
	for range 5000 {
		l := random(chance, chance.Intn(257))
		s, e := Print(l)
		if e != api.OK {
			t.Fatalf("Print(%v): %d", l, e)
		}
		checkParse(t, s, l, api.OK)
	}
}

func TestBackFromTexts(t *testing.T) {
	parts := strings.Fields(controls + " < > C - R lt Esc a \u00e9 \ufffd \U0001f600 \xff \xc3 \x01 \x7f " + less)
	chance := rand.New(rand.NewSource(104))
	read := 0
	for range 50000 {
		var s string
		for range chance.Intn(6) {
			s += parts[chance.Intn(len(parts))]
		}
		l, e := Parse(s)
		if e != api.OK {
			continue
		}
		read++
		checkPrint(t, l, s, api.OK)
	}
	if read < 10000 {
		t.Errorf("only %d texts could be read", read)
	}
}

// P10.5

func TestJoins(t *testing.T) {
	chance := rand.New(rand.NewSource(105))
	for range 5000 {
		a, b := random(chance, chance.Intn(129)), random(chance, chance.Intn(129))
		first, _ := Print(a)
		second, _ := Print(b)
		checkPrint(t, slices.Concat(a, b), first+second, api.OK)
		checkParse(t, first+second, slices.Concat(a, b), api.OK)
	}
	from := someKeys()
	for _, a := range from {
		for _, b := range from {
			first, _ := Print([]rune{a})
			second, _ := Print([]rune{b})
			checkPrint(t, []rune{a, b}, first+second, api.OK)
			checkParse(t, first+second, []rune{a, b}, api.OK)
		}
	}
}
