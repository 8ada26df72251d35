package exline

import (
	"fmt"
	"math"
	"math/big"
	"math/rand"
	"regexp"
	"slices"
	"strconv"
	"strings"
	"testing"

	"bureau/api"
)

// The chapter's own words, written out in another way than the program's: the form of a command line as a regular expression, its fields as what the parts of that match, and the lines that it addresses as numbers without bounds.

const (
	digitsForm  = `[0-9]{1,4}`
	addressForm = `(?:` + digitsForm + `|\.|\$)(?:[+-]` + digitsForm + `)?`
	patternForm = `(?:[^/\\\x00-\x1f]|\\/|\\\\|\\n)*`
)

var (
	lineForm    = regexp.MustCompile(`^ *(?:(%)|(` + addressForm + `)(?:,(` + addressForm + `))?)? *(?:s/(` + patternForm + `)/(` + patternForm + `)(/g?)?|([a-z]{1,32})((?: +[!-~]{1,32})*) *)$`)
	addressPart = regexp.MustCompile(`^([^+-]+)([+-][0-9]+)?$`)
	patternPart = regexp.MustCompile(`\\.`)
)

// toldWords is how many words a command may have, and whether it may have a range.
type toldRule struct {
	words  []int
	ranged bool
}

// toldRules are the chapter's commands.
var toldRules = map[string]toldRule{
	"s": {[]int{0}, true},
	"d": {[]int{0, 1}, true}, "y": {[]int{0, 1}, true}, "w": {[]int{0, 1}, true},
	"e": {[]int{1}, false}, "b": {[]int{1}, false},
	"send": {[]int{1}, true}, "low": {[]int{1}, true},
	"pull": {[]int{2}, false}, "revoke": {[]int{2}, false}, "load": {[]int{2}, false},
	"grant": {[]int{3}, false},
}

// toldAddress is the address that a part of a line tells.
func toldAddress(s string) Addr {
	if s == "" {
		return Addr{}
	}
	m := addressPart.FindStringSubmatch(s)
	off, _ := strconv.Atoi(m[2])
	switch m[1] {
	case ".":
		return Addr{Here, 0, off}
	case "$":
		return Addr{Last, 0, off}
	}
	n, _ := strconv.Atoi(m[1])
	return Addr{Number, n, off}
}

// toldPattern is what a pattern denotes.
func toldPattern(s string) string {
	return patternPart.ReplaceAllStringFunc(s, func(pair string) string {
		if pair == `\n` {
			return "\n"
		}
		return pair[1:]
	})
}

// toldForm is the command line that a text has by its form alone.
func toldForm(s string) (Line, bool) {
	m := lineForm.FindStringSubmatchIndex(s)
	if m == nil {
		return Line{}, false
	}
	part := func(i int) string {
		if m[2*i] < 0 {
			return ""
		}
		return s[m[2*i]:m[2*i+1]]
	}
	l := Line{All: part(1) != "", From: toldAddress(part(2)), To: toldAddress(part(3))}
	if m[2*7] >= 0 {
		l.Cmd, l.Words = part(7), strings.Fields(part(8))
		return l, l.Cmd != "s"
	}
	l.Cmd, l.Pat, l.Rep, l.Every = "s", toldPattern(part(4)), toldPattern(part(5)), part(6) == "/g"
	return l, l.Pat != ""
}

// toldParse is what Parse answers.
func toldParse(s string) (Line, api.Errno) {
	if len(s) > 256 {
		return Line{}, api.ErrBig
	}
	l, ok := toldForm(s)
	if !ok {
		return Line{}, api.ErrForm
	}
	if e := toldCommand(l); e != api.OK {
		return Line{}, e
	}
	return l, api.OK
}

// toldCommand is the error of a line whose command does not go with the rest of it.
func toldCommand(l Line) api.Errno {
	r, ok := toldRules[l.Cmd]
	switch {
	case !ok:
		return api.ErrNone
	case !slices.Contains(r.words, len(l.Words)), !r.ranged && (l.All || l.From.Kind != None || l.To.Kind != None):
		return api.ErrArg
	}
	return api.OK
}

// alike: are two lines the same?
func alike(l, m Line) bool {
	return fmt.Sprintf("%#v", bare(l)) == fmt.Sprintf("%#v", bare(m)) && slices.Equal(l.Words, m.Words)
}

// bare is a line without its words.
func bare(l Line) Line {
	l.Words = nil
	return l
}

func checkParse(t *testing.T, s string) {
	t.Helper()
	l, e := Parse(s)
	want, err := toldParse(s)
	if e != err || e != api.OK && (l.Words != nil || !alike(l, Line{})) || e == api.OK && !alike(l, want) {
		t.Fatalf("Parse(%q) = %+v, %d, not %+v, %d", s, l, e, want, err)
	}
}

// P16.1

func TestParseExamples(t *testing.T) {
	for s, want := range map[string]Line{
		"2,$-1d x":        {From: Addr{Number, 2, 0}, To: Addr{Last, 0, -1}, Cmd: "d", Words: []string{"x"}},
		`%s/a\/b/c\n/g`:   {All: true, Cmd: "s", Pat: "a/b", Rep: "c\n", Every: true},
		" w":              {Cmd: "w"},
		"d":               {Cmd: "d"},
		".+2y":            {From: Addr{Here, 0, 2}, Cmd: "y"},
		"s/a/":            {Cmd: "s", Pat: "a"},
		"s/a//":           {Cmd: "s", Pat: "a"},
		"s/a//g":          {Cmd: "s", Pat: "a", Every: true},
		"s/a/b":           {Cmd: "s", Pat: "a", Rep: "b"},
		"s/a/b/":          {Cmd: "s", Pat: "a", Rep: "b"},
		`s/\\\n/\//g`:     {Cmd: "s", Pat: "\\\n", Rep: "/", Every: true},
		"s/ / ":           {Cmd: "s", Pat: " ", Rep: " "},
		"s/\x7f\xff/\x80": {Cmd: "s", Pat: "\x7f\xff", Rep: "\x80"},
		"s/é/字/g":         {Cmd: "s", Pat: "é", Rep: "字", Every: true},
		"0d":              {From: Addr{Kind: Number}, Cmd: "d"},
		"0009+0010d":      {From: Addr{Number, 9, 10}, Cmd: "d"},
		"9999-9999,$+0d":  {From: Addr{Number, 9999, -9999}, To: Addr{Kind: Last}, Cmd: "d"},
		"send a":          {Cmd: "send", Words: []string{"a"}},
		"%low -":          {All: true, Cmd: "low", Words: []string{"-"}},
		"grant n 4 0":     {Cmd: "grant", Words: []string{"n", "4", "0"}},
		"revoke 0 1":      {Cmd: "revoke", Words: []string{"0", "1"}},
		"load p 0":        {Cmd: "load", Words: []string{"p", "0"}},
		"pull n 0":        {Cmd: "pull", Words: []string{"n", "0"}},
		"e !~/,%":         {Cmd: "e", Words: []string{"!~/,%"}},
		"b 1":             {Cmd: "b", Words: []string{"1"}},
	} {
		checkParse(t, s)
		if l, e := Parse(s); e != api.OK || !alike(l, want) {
			t.Errorf("Parse(%q) = %+v, %d", s, l, e)
		}
	}
}

func TestParseErrors(t *testing.T) {
	word, name := strings.Repeat("~", 32), strings.Repeat("z", 32)
	for s, want := range map[string]api.Errno{
		"e": api.ErrArg, "1e x": api.ErrArg, "%e x": api.ErrArg, "x": api.ErrNone,
		"": api.ErrForm, "s": api.ErrForm, "s//x/": api.ErrForm, "s/a": api.ErrForm, "1,d": api.ErrForm, "d\t": api.ErrForm, "12345d": api.ErrForm,
		// A range in pieces, and one that is not there.
		" ": api.ErrForm, "1": api.ErrForm, "%": api.ErrForm, "%%d": api.ErrForm, "%1d": api.ErrForm, "%,1d": api.ErrForm, "1,%d": api.ErrForm,
		",1d": api.ErrForm, ",d": api.ErrForm, "1,,2d": api.ErrForm, "1,2,3d": api.ErrForm, "1 ,2d": api.ErrForm, "1, 2d": api.ErrForm,
		"+1d": api.ErrForm, "-1d": api.ErrForm, "1+d": api.ErrForm, "1-d": api.ErrForm, "1+-1d": api.ErrForm, "1+1+1d": api.ErrForm, "1 +1d": api.ErrForm,
		"1+12345d": api.ErrForm, "1,12345d": api.ErrForm, ".1d": api.ErrForm, "$1d": api.ErrForm, "1.d": api.ErrForm, "..d": api.ErrForm, "1 2d": api.ErrForm, "%+1d": api.ErrForm,
		// Names, words and patterns.
		"D": api.ErrForm, "d1": api.ErrForm, "d/x": api.ErrForm, "d!": api.ErrForm, "d\n": api.ErrForm, "\td": api.ErrForm, "d x\x7f": api.ErrForm, "d é": api.ErrForm, "d x\ty": api.ErrForm,
		"s ": api.ErrForm, "s x": api.ErrForm, "s /a/b/": api.ErrForm, "s/": api.ErrForm, "s//": api.ErrForm, "sa/b/": api.ErrForm, "s/a/b/x": api.ErrForm, "s/a/b/gg": api.ErrForm, "s/a/b//": api.ErrForm,
		"s/a/b/ ": api.ErrForm, "s/a/b/g ": api.ErrForm, `s/a\`: api.ErrForm, `s/a/\`: api.ErrForm, `s/a/b\`: api.ErrForm, `s/a\x/b`: api.ErrForm, `s/a\N/b`: api.ErrForm, `s/\/`: api.ErrForm, `s/\//`: api.OK,
		"s/a\n/b": api.ErrForm, "s/a/\x1f": api.ErrForm, "s/a\tb/c": api.ErrForm, "s/a\x00/b": api.ErrForm, "s/a/b\x00": api.ErrForm,
		// Commands, and their words.
		"sx": api.ErrNone, "ss": api.ErrNone, "sends a": api.ErrNone, "dd": api.ErrNone, "x y z": api.ErrNone, "%x": api.ErrNone,
		"d x y": api.ErrArg, "y x y": api.ErrArg, "w x y": api.ErrArg, "send": api.ErrArg, "send a b": api.ErrArg, "low": api.ErrArg, "low a b": api.ErrArg,
		"e a b": api.ErrArg, "b": api.ErrArg, "b a b": api.ErrArg, "pull a": api.ErrArg, "pull a b c": api.ErrArg, "load": api.ErrArg, "revoke 1": api.ErrArg, "grant a b": api.ErrArg, "grant a b c d": api.ErrArg,
		".b a": api.ErrArg, "1,2pull a b": api.ErrArg, "%revoke 1 2": api.ErrArg, "$load a 0": api.ErrArg, "%grant a b c": api.ErrArg, "0e x": api.ErrArg,
		// Lengths.
		"d " + word: api.OK, "d " + word + "~": api.ErrForm, "grant " + word + " " + word + " " + word: api.OK, name: api.ErrNone, name + "z": api.ErrForm, "x " + word + "~": api.ErrForm,
	} {
		checkParse(t, s)
		if _, e := Parse(s); e != want {
			t.Errorf("Parse(%q): %d, not %d", s, e, want)
		}
	}
}

func TestParseBig(t *testing.T) {
	for _, s := range []string{"d", "s/a/", "x", "e", "1e x", "\t", " "} {
		for _, n := range []int{255, 256, 257, 1000} {
			checkParse(t, s+strings.Repeat(" ", n-len(s)))
			checkParse(t, strings.Repeat(" ", n-len(s))+s)
		}
	}
	checkParse(t, "s/a/"+strings.Repeat(`\n`, 126))
	checkParse(t, "s/a/"+strings.Repeat(`\n`, 127))
	if _, e := Parse(strings.Repeat("\xff", 1<<20)); e != api.ErrBig {
		t.Errorf("a million bytes: %d", e)
	}
}

// each calls f for all strings of at most so many pieces.
func each(pieces []string, most int, f func(s string)) {
	var grow func(s string, left int)
	grow = func(s string, left int) {
		f(s)
		for _, p := range pieces {
			if left > 0 {
				grow(s+p, left-1)
			}
		}
	}
	grow("", most)
}

func TestParseAllSmall(t *testing.T) {
	for _, c := range []struct {
		pieces string
		most   int
	}{
		{" 1,.$%+-d", 5},
		{"s/\\ng b", 6},
		{" sdex\t!", 5},
	} {
		each(strings.Split(c.pieces, ""), c.most, func(s string) { checkParse(t, s) })
	}
	each([]string{"s/", "/", `\`, "n", "g", " ", "a"}, 5, func(s string) { checkParse(t, "s/a"+s) })
	each([]string{"1234", "5", ",", "+", ".", " "}, 5, func(s string) { checkParse(t, s+"d") })
	for i := range 256 {
		c := string([]byte{byte(i)})
		for _, s := range []string{c, c + "d", "1" + c + "d", "1,2" + c + "d", "d" + c, "d " + c, "d x" + c, "d" + c + "x", "s" + c + "a/b", "s/" + c + "/b", "s/a/" + c, `s/\` + c + "/b", `s/a/\` + c, "s/a/b/" + c, "s/a/b/g" + c} {
			checkParse(t, s)
		}
	}
}

// pick is one of some.
func pick[T any](r *rand.Rand, l ...T) T { return l[r.Intn(len(l))] }

// anyText is a text that is a command line, or almost one.
func anyText(r *rand.Rand) string {
	gap := func() string { return strings.Repeat(" ", r.Intn(3)) }
	number := func() string { return pick(r, "0", "1", "7", "0012", "999", "9999", "10000", "") }
	address := func() string {
		return pick(r, number(), ".", "$", ".", "$") + pick(r, "", "", "", "+"+number(), "-"+number())
	}
	s := gap() + pick(r, "", "", "%", address(), address()+","+address()) + gap()
	if r.Intn(3) == 0 {
		s += "s"
		for range 2 + r.Intn(2) {
			s += "/"
			for range r.Intn(5) {
				s += pick(r, "a", "b", " ", `\/`, `\\`, `\n`, "é", "\xff")
			}
		}
		s += pick(r, "", "", "/", "/g", "g")
	} else {
		s += pick(r, "d", "y", "w", "e", "b", "send", "low", "pull", "revoke", "load", "grant", "x", "ss")
		for range r.Intn(4) {
			s += " " + gap() + strings.Repeat(pick(r, "a", "!", "-", "9"), pick(r, 1, 2, 31, 32, pick(r, 1, 33)))
		}
		s += gap()
	}
	if r.Intn(4) == 0 {
		at := r.Intn(len(s) + 1)
		s = s[:at] + pick(r, " ", "/", `\`, "\t", "%", "1", "s", ",", "+", "\x00", "\x80") + s[at:]
	}
	return s
}

func TestParseRandom(t *testing.T) {
	r := rand.New(rand.NewSource(1))
	good := 0
	for range 50000 {
		s := anyText(r)
		checkParse(t, s)
		if _, e := Parse(s); e == api.OK {
			good++
		}
	}
	if good < 5000 {
		t.Errorf("only %d of them are command lines", good)
	}
}

// P16.2

// toldLine: is a line the command line of some string?
func toldLine(l Line) bool {
	from, to := l.From.Kind != None, l.To.Kind != None
	if !toldGood(l.From) || !toldGood(l.To) || l.All && from || to && !from || toldCommand(l) != api.OK {
		return false
	}
	for _, w := range l.Words {
		if len(w) < 1 || len(w) > 32 || strings.ContainsFunc(w, func(r rune) bool { return r <= ' ' || r > '~' }) {
			return false
		}
	}
	if l.Cmd != "s" {
		return l.Pat == "" && l.Rep == "" && !l.Every
	}
	for _, c := range []byte(l.Pat + l.Rep) {
		if c < 32 && c != 10 {
			return false
		}
	}
	return l.Pat != ""
}

// toldGood: is an address one that a string tells, or none?
func toldGood(a Addr) bool {
	switch a.Kind {
	case None:
		return a == Addr{}
	case Number:
		return a.N >= 0 && a.N < 10000 && a.Off > -10000 && a.Off < 10000
	case Here, Last:
		return a.N == 0 && a.Off > -10000 && a.Off < 10000
	}
	return false
}

// toldPrint is what Print answers.
func toldPrint(l Line) (string, api.Errno) {
	if !toldLine(l) {
		return "", api.ErrArg
	}
	s := toldAddressText(l.From)
	if l.All {
		s = "%"
	}
	if l.To.Kind != None {
		s += "," + toldAddressText(l.To)
	}
	s = strings.Join(append([]string{s + l.Cmd}, l.Words...), " ")
	if l.Cmd == "s" {
		s += "/" + toldEscaped(l.Pat) + "/" + toldEscaped(l.Rep)
	}
	if l.Every {
		s += "/g"
	}
	if len(s) > 256 {
		return "", api.ErrBig
	}
	return s, api.OK
}

// toldAddressText is the text of an address.
func toldAddressText(a Addr) string {
	s := []string{"", strconv.Itoa(a.N), ".", "$"}[a.Kind]
	if a.Off != 0 {
		s += fmt.Sprintf("%+d", a.Off)
	}
	return s
}

// toldEscaped is a pattern's text.
func toldEscaped(s string) string {
	s = strings.ReplaceAll(s, `\`, `\\`)
	s = strings.ReplaceAll(s, "/", `\/`)
	return strings.ReplaceAll(s, "\n", `\n`)
}

func checkPrint(t *testing.T, l Line) {
	t.Helper()
	s, e := Print(l)
	if want, err := toldPrint(l); s != want || e != err {
		t.Fatalf("Print(%+v) = %q, %d, not %q, %d", l, s, e, want, err)
	}
}

func TestPrintExamples(t *testing.T) {
	for s, l := range map[string]Line{
		"2,$-1d x":              {From: Addr{Number, 2, 0}, To: Addr{Last, 0, -1}, Cmd: "d", Words: []string{"x"}},
		`%s/a\/b/c\n/g`:         {All: true, Cmd: "s", Pat: "a/b", Rep: "c\n", Every: true},
		"w":                     {Cmd: "w", Words: []string{}},
		"s/a/":                  {Cmd: "s", Pat: "a"},
		"s/a//g":                {Cmd: "s", Pat: "a", Every: true},
		`s/\\\\n/\//g`:          {Cmd: "s", Pat: `\\n`, Rep: "/", Every: true},
		"s/\xff\x7f é/\xe9 ":    {Cmd: "s", Pat: "\xff\x7f é", Rep: "\xe9 "},
		".y":                    {From: Addr{Kind: Here}, Cmd: "y"},
		"0,.+9999send !":        {From: Addr{Kind: Number}, To: Addr{Here, 0, 9999}, Cmd: "send", Words: []string{"!"}},
		"9999-9999,$low 0":      {From: Addr{Number, 9999, -9999}, To: Addr{Kind: Last}, Cmd: "low", Words: []string{"0"}},
		"grant n 4 0":           {Cmd: "grant", Words: []string{"n", "4", "0"}},
		"9,1d":                  {From: Addr{Number, 9, 0}, To: Addr{Number, 1, 0}, Cmd: "d"},
		"$+5w":                  {From: Addr{Last, 0, 5}, Cmd: "w"},
		"revoke 0 1":            {Cmd: "revoke", Words: []string{"0", "1"}},
		"s/a\\n/" + `\n` + "/g": {Cmd: "s", Pat: "a\n", Rep: "\n", Every: true},
	} {
		checkPrint(t, l)
		if got, e := Print(l); got != s || e != api.OK {
			t.Errorf("Print(%+v) = %q, %d, not %q", l, got, e, s)
		}
	}
}

func TestPrintErrors(t *testing.T) {
	word := strings.Repeat("w", 32)
	for i, l := range []Line{
		{}, {Cmd: "x"}, {Cmd: "D"}, {Cmd: "d "}, {Cmd: " d"}, {Cmd: "d x"}, {Cmd: "1d"}, {Cmd: "%d"}, {Cmd: "s/a/b"}, {Cmd: "s/a/b", Pat: "a"}, {Cmd: "sx", Pat: "a"},
		{Cmd: "s"}, {Cmd: "s", Rep: "a"}, {Cmd: "s", Every: true}, {Cmd: "s", Pat: "a", Words: []string{"x"}}, {Cmd: "s", Pat: "a", Words: []string{""}},
		{Cmd: "s", Pat: "\t"}, {Cmd: "s", Pat: "a", Rep: "\x00"}, {Cmd: "s", Pat: "a\x1fb"}, {Cmd: "s", Pat: "a", Rep: "\r"},
		{Cmd: "d", Pat: "a"}, {Cmd: "d", Rep: "a"}, {Cmd: "d", Every: true}, {Cmd: "e", Words: []string{"x"}, Every: true}, {Cmd: "e", Words: []string{"x"}, Pat: "\t"},
		{Cmd: "e"}, {Cmd: "e", Words: []string{"a", "b"}}, {Cmd: "d", Words: []string{"a", "b"}}, {Cmd: "pull", Words: []string{"a"}}, {Cmd: "grant", Words: []string{"a", "b"}},
		{Cmd: "d", Words: []string{""}}, {Cmd: "d", Words: []string{" "}}, {Cmd: "d", Words: []string{"a b"}}, {Cmd: "d", Words: []string{" a"}}, {Cmd: "d", Words: []string{"a "}}, {Cmd: "d", Words: []string{"\x7f"}}, {Cmd: "d", Words: []string{"é"}}, {Cmd: "d", Words: []string{"a\n"}}, {Cmd: "d", Words: []string{word + "w"}},
		{Cmd: "pull", Words: []string{"a b"}}, {Cmd: "pull", Words: []string{"a b", ""}}, {Cmd: "grant", Words: []string{"a", "", "b"}}, {Cmd: "pull", Words: []string{"a", "", "b"}},
		{Cmd: "d", To: Addr{Kind: Here}}, {Cmd: "d", To: Addr{N: 1}}, {Cmd: "d", From: Addr{N: 1}}, {Cmd: "d", From: Addr{Off: 1}}, {Cmd: "d", From: Addr{Off: -1}}, {Cmd: "d", From: Addr{Kind: Here}, To: Addr{Off: 1}},
		{Cmd: "d", From: Addr{Here, 1, 0}}, {Cmd: "d", From: Addr{Last, 1, 0}}, {Cmd: "d", From: Addr{Number, -1, 0}}, {Cmd: "d", From: Addr{Number, 10000, 0}}, {Cmd: "d", From: Addr{Here, 0, 10000}}, {Cmd: "d", From: Addr{Last, 0, -10000}},
		{Cmd: "d", From: Addr{Number, math.MaxInt, 0}}, {Cmd: "d", From: Addr{Number, math.MinInt, 0}}, {Cmd: "d", From: Addr{Here, 0, math.MinInt}}, {Cmd: "d", From: Addr{Here, 0, math.MaxInt}},
		{Cmd: "d", From: Addr{Kind: -1}}, {Cmd: "d", From: Addr{Kind: 4}}, {Cmd: "d", From: Addr{Kind: math.MaxInt}}, {Cmd: "d", From: Addr{Kind: math.MinInt}}, {Cmd: "d", From: Addr{Kind: Here}, To: Addr{Kind: 4}}, {Cmd: "d", From: Addr{4, 1, 1}},
		{All: true, Cmd: "d", From: Addr{Kind: Here}}, {All: true, Cmd: "d", To: Addr{Kind: Here}}, {All: true, Cmd: "d", From: Addr{N: 1}}, {All: true, Cmd: "d", From: Addr{Off: 1}},
		{All: true, Cmd: "e", Words: []string{"x"}}, {Cmd: "b", Words: []string{"x"}, From: Addr{Kind: Here}}, {Cmd: "load", Words: []string{"x", "y"}, All: true},
		{All: true, Cmd: "x"}, {Cmd: strings.Repeat("z", 33)}, {Cmd: strings.Repeat("d", 1<<20)}, {Cmd: "d", Words: make([]string, 1000)}, {Cmd: "d", Words: slices.Repeat([]string{"a"}, 1000)},
		{Cmd: "s", Pat: "a", Rep: strings.Repeat("b", 300) + "\t"}, {Cmd: "e", Words: []string{strings.Repeat("b", 300)}},
	} {
		checkPrint(t, l)
		if s, e := Print(l); s != "" || e != api.ErrArg {
			t.Errorf("%d: Print(%+v) = %q, %d", i, l, s, e)
		}
	}
}

func TestPrintBig(t *testing.T) {
	for n := range 300 {
		for _, piece := range []string{"a", "/", "\\", "\n", "\xff"} {
			long := strings.Repeat(piece, n)
			checkPrint(t, Line{Cmd: "s", Pat: long})
			checkPrint(t, Line{Cmd: "s", Pat: long, Rep: "b"})
			checkPrint(t, Line{Cmd: "s", Pat: "b", Rep: long})
			checkPrint(t, Line{All: true, Cmd: "s", Pat: "b", Rep: long, Every: true})
		}
	}
	if s, e := Print(Line{Cmd: "s", Pat: "b", Rep: strings.Repeat("b", 252)}); len(s) != 256 || e != api.OK {
		t.Errorf("256 bytes: %d, %d", len(s), e)
	}
	if s, e := Print(Line{Cmd: "s", Pat: "b", Rep: strings.Repeat("b", 253)}); s != "" || e != api.ErrBig {
		t.Errorf("257 bytes: %q, %d", s, e)
	}
	checkPrint(t, Line{Cmd: "s", Pat: strings.Repeat("b", 1<<20)})
	most := slices.Repeat([]string{strings.Repeat("~", 32)}, 3)
	checkPrint(t, Line{Cmd: "grant", Words: most})
}

func TestPrintAllSmall(t *testing.T) {
	var addrs []Addr
	for _, kind := range []int{-1, None, Number, Here, Last, 4} {
		for _, n := range []int{-1, 0, 1, 9999, 10000} {
			for _, off := range []int{-10000, -9999, 0, 5, 9999, 10000} {
				addrs = append(addrs, Addr{kind, n, off})
			}
		}
	}
	for _, all := range []bool{false, true} {
		for _, from := range addrs {
			for _, to := range addrs {
				checkPrint(t, Line{All: all, From: from, To: to, Cmd: "d"})
			}
			for _, cmd := range []string{"s", "e", "send", "x"} {
				checkPrint(t, Line{All: all, From: from, Cmd: cmd, Words: []string{"a"}})
				checkPrint(t, Line{All: all, From: from, Cmd: cmd, Pat: "a"})
			}
		}
	}
	fields := []string{"", "a", "/", "\\", "\n", "\t", " ", "s/"}
	for _, cmd := range []string{"", "s", "d", "e", "b", "y", "w", "send", "low", "pull", "revoke", "load", "grant", "x", "s/", "d "} {
		for _, pat := range fields {
			for _, rep := range fields {
				for _, words := range [][]string{nil, {}, {"a"}, {""}, {"/"}, {"a", "b"}, {"a", "b", "c"}, {"a", " ", "c"}, {"a", "b", "c", "d"}} {
					checkPrint(t, Line{Cmd: cmd, Words: words, Pat: pat, Rep: rep})
					checkPrint(t, Line{Cmd: cmd, Words: words, Pat: pat, Rep: rep, Every: true})
					checkPrint(t, Line{All: true, Cmd: cmd, Words: words, Pat: pat, Rep: rep})
				}
			}
		}
	}
	for i := range 256 {
		c := string([]byte{byte(i)})
		for _, l := range []Line{{Cmd: c}, {Cmd: "d" + c}, {Cmd: "d", Words: []string{c}}, {Cmd: "d", Words: []string{"a" + c}}, {Cmd: "s", Pat: c}, {Cmd: "s", Pat: "a", Rep: c}} {
			checkPrint(t, l)
		}
	}
}

// anyLine is a line that a string may have, or almost one.
func anyLine(r *rand.Rand) Line {
	address := func() Addr {
		return Addr{pick(r, None, Number, Here, Last), pick(r, 0, 0, 0, 1, 42, 9999, 10000), pick(r, 0, 0, 1, -7, 9999, -9999)}
	}
	l := Line{All: r.Intn(4) == 0, Cmd: pick(r, "s", "s", "d", "y", "w", "e", "b", "send", "low", "pull", "grant", "x")}
	if !l.All && r.Intn(2) == 0 {
		l.From, l.To = address(), pick(r, Addr{}, address())
	}
	for range r.Intn(4) {
		l.Words = append(l.Words, strings.Repeat(pick(r, "a", "!", "~", "%"), pick(r, 1, 2, 32)))
	}
	if l.Cmd == "s" {
		l.Words = nil
		for range r.Intn(5) {
			l.Pat += pick(r, "a", "/", "\\", "\n", "\xff", "é", " ")
			l.Rep += pick(r, "", "a", "/", "\\", "\n", "g", " ")
		}
		l.Every = r.Intn(2) == 0
	}
	return l
}

// P16.2 and P16.4, and the other way round: what is read is printed no longer than it was.
func TestPrintBack(t *testing.T) {
	r := rand.New(rand.NewSource(2))
	good := 0
	for range 50000 {
		l := anyLine(r)
		checkPrint(t, l)
		if s, e := Print(l); e == api.OK {
			good++
			if m, e := Parse(s); e != api.OK || !alike(l, m) {
				t.Fatalf("Parse(%q) = %+v, %d, not %+v", s, m, e, l)
			}
		}
		s := anyText(r)
		if l, e := Parse(s); e == api.OK {
			p, e := Print(l)
			if m, err := Parse(p); e != api.OK || len(p) > len(s) || err != api.OK || !alike(l, m) {
				t.Fatalf("%q has %+v, which is printed %q, %d and read as %+v, %d", s, l, p, e, m, err)
			}
		}
	}
	if good < 5000 {
		t.Errorf("only %d of them are command lines", good)
	}
}

// P16.3

// toldPlace is the line of an address; nil: no address that may be.
func toldPlace(a Addr, here, count int) *big.Int {
	at := new(big.Int)
	switch a.Kind {
	case Number:
		at.Sub(big.NewInt(int64(a.N)), big.NewInt(1))
	case Here:
		at.SetInt64(int64(here))
	case Last:
		at.Sub(big.NewInt(int64(count)), big.NewInt(1))
	default:
		return nil
	}
	return at.Add(at, big.NewInt(int64(a.Off)))
}

// toldLines is what Lines answers; a -1 stands for ErrArg.
func toldLines(l Line, here, count int) (int, int) {
	if count < 1 || here < 0 || here > count-1 {
		return -1, -1
	}
	for _, a := range []Addr{l.From, l.To} {
		if !slices.Contains([]int{None, Number, Here, Last}, a.Kind) || max(a.N, a.Off) > 9999 || min(a.N, a.Off) < -9999 {
			return -1, -1
		}
	}
	from, to := toldPlace(l.From, here, count), toldPlace(l.To, here, count)
	switch {
	case l.All, from == nil && to == nil && slices.Contains([]string{"w", "send"}, l.Cmd):
		return 0, count - 1
	case from == nil && to == nil:
		return here, here
	case from == nil:
		return -1, -1
	case to == nil:
		to = from
	}
	end := big.NewInt(int64(count))
	if from.Sign() < 0 || from.Cmp(end) >= 0 || to.Sign() < 0 || to.Cmp(end) >= 0 || to.Cmp(from) < 0 {
		return -1, -1
	}
	return int(from.Int64()), int(to.Int64())
}

func checkLines(t *testing.T, l Line, here, count int) {
	t.Helper()
	a, b, e := Lines(l, here, count)
	wantA, wantB := toldLines(l, here, count)
	if wantA < 0 && (a != 0 || b != 0 || e != api.ErrArg) || wantA >= 0 && (a != wantA || b != wantB || e != api.OK) {
		t.Fatalf("Lines(%+v, %d, %d) = %d, %d, %d, not %d, %d", l, here, count, a, b, e, wantA, wantB)
	}
}

func TestLinesExamples(t *testing.T) {
	for _, c := range []struct {
		s           string
		here, count int
		want        [3]int
	}{
		{"2,$-1d x", 0, 5, [3]int{1, 3, 0}},
		{" w", 3, 5, [3]int{0, 4, 0}},
		{"send x", 3, 5, [3]int{0, 4, 0}},
		{"d", 3, 5, [3]int{3, 3, 0}},
		{"low x", 3, 5, [3]int{3, 3, 0}},
		{"e x", 3, 5, [3]int{3, 3, 0}},
		{"s/a/b", 3, 5, [3]int{3, 3, 0}},
		{".w", 3, 5, [3]int{3, 3, 0}},
		{"%d", 3, 5, [3]int{0, 4, 0}},
		{".+2y", 3, 5, [3]int{0, 0, 2}},
		{".+1y", 3, 5, [3]int{4, 4, 0}},
		{".-3y", 3, 5, [3]int{0, 0, 0}},
		{".-4y", 3, 5, [3]int{0, 0, 2}},
		{"0d", 3, 5, [3]int{0, 0, 2}},
		{"0+1d", 3, 5, [3]int{0, 0, 0}},
		{"5d", 3, 5, [3]int{4, 4, 0}},
		{"6d", 3, 5, [3]int{0, 0, 2}},
		{"6-1d", 3, 5, [3]int{4, 4, 0}},
		{"$+1d", 3, 5, [3]int{0, 0, 2}},
		{"4,2d", 3, 5, [3]int{0, 0, 2}},
		{"2,2d", 3, 5, [3]int{1, 1, 0}},
		{"1,6d", 3, 5, [3]int{0, 0, 2}},
		{"1,$d", 0, 1, [3]int{0, 0, 0}},
	} {
		l, _ := Parse(c.s)
		checkLines(t, l, c.here, c.count)
		if a, b, e := Lines(l, c.here, c.count); [3]int{a, b, int(e)} != c.want {
			t.Errorf("Lines of %q, %d, %d: %d, %d, %d", c.s, c.here, c.count, a, b, e)
		}
	}
}

func TestLinesAllSmall(t *testing.T) {
	var addrs []Addr
	for _, kind := range []int{-1, None, Number, Here, Last, 4} {
		for _, n := range []int{-10000, -9999, -2, 0, 1, 3, 9999, 10000} {
			for _, off := range []int{-10000, -9999, -1, 0, 2, 9999, 10000} {
				addrs = append(addrs, Addr{kind, n, off})
			}
		}
	}
	sizes := [][2]int{{0, 1}, {2, 4}, {3, 3}, {9999, 20000}}
	for i, from := range addrs {
		for j, to := range addrs {
			size := sizes[(i+j)%len(sizes)]
			checkLines(t, Line{From: from, To: to, Cmd: "d"}, size[0], size[1])
			checkLines(t, Line{From: from, To: to, Cmd: "w"}, size[0], size[1])
			checkLines(t, Line{All: true, From: from, To: to}, size[0], size[1])
		}
	}
}

func TestLinesPlaces(t *testing.T) {
	ends := []int{math.MinInt, math.MinInt + 1, -1, 0, 1, 2, 3, math.MaxInt - 1, math.MaxInt}
	for _, here := range ends {
		for _, count := range ends {
			for _, a := range []Addr{{}, {Number, 1, 0}, {Number, -9999, -9999}, {Number, 9999, 9999}, {Here, 0, 9999}, {Here, 0, -1}, {Here, 0, 1}, {Last, 0, -9999}, {Last, 0, 1}, {Last, 0, 9999}} {
				for _, b := range []Addr{{}, {Number, 2, 0}, {Here, 0, 9999}, {Last, 0, 0}, {Last, 0, 9999}} {
					for _, cmd := range []string{"", "d", "w", "send", "s", "sends", "W", "x"} {
						checkLines(t, Line{From: a, To: b, Cmd: cmd}, here, count)
						checkLines(t, Line{All: true, From: a, To: b, Cmd: cmd}, here, count)
					}
				}
			}
		}
	}
}

func TestLinesWild(t *testing.T) {
	wild := []int{math.MinInt, -10000, -1, 0, 1, 2, 3, 4, 10000, math.MaxInt}
	for _, kind := range wild {
		for _, n := range wild {
			for _, off := range wild {
				a := Addr{kind, n, off}
				for _, l := range []Line{{From: a}, {To: a}, {From: a, To: a}, {All: true, From: a}, {All: true, To: a}, {From: Addr{Kind: Here}, To: a}} {
					checkLines(t, l, 2, 5)
					checkPrint(t, l)
					l.Cmd = "d"
					checkPrint(t, l)
				}
			}
		}
	}
}

// P16.5

func TestBlanks(t *testing.T) {
	r := rand.New(rand.NewSource(3))
	for range 30000 {
		l := anyLine(r)
		s, e := Print(l)
		if e != api.OK {
			continue
		}
		command := strings.TrimLeft(s, "0123456789.$%,+-")
		around := func() string { return strings.Repeat(" ", pick(r, 0, 1, 2, 9)) }
		spread := around() + strings.TrimSuffix(s, command) + around() + command
		if l.Cmd != "s" {
			// Behind an s a blank is one of the replacement's bytes.
			spread += around()
		}
		if m, e := Parse(spread); len(spread) <= 256 && (e != api.OK || !alike(l, m)) {
			t.Fatalf("Parse(%q) = %+v, %d, not %+v", spread, m, e, l)
		}
		checkParse(t, spread)
	}
}

func TestBlanksOfErrors(t *testing.T) {
	for _, s := range []string{"x", "e", "e a b", "1,", "d\t", "5", "%", "", "1,2,3d"} {
		_, want := Parse(s)
		for _, spread := range []string{" " + s, "   " + s, s + " ", s + "   ", " " + s + " "} {
			if l, e := Parse(spread); e != want || !alike(l, Line{}) {
				t.Errorf("Parse(%q) = %+v, %d, not %d", spread, l, e, want)
			}
		}
	}
}

// R4 and R6: what is answered is new, and what is given stays.
func TestOwnMemory(t *testing.T) {
	first, _ := Parse("grant a b c")
	second, _ := Parse("grant a b c")
	first.Words[0] = "x"
	first.Words = append(first.Words[:1], "y")
	if again, _ := Parse("grant a b c"); !slices.Equal(second.Words, []string{"a", "b", "c"}) || !slices.Equal(again.Words, second.Words) {
		t.Errorf("%v, %v", second.Words, again.Words)
	}
	words := []string{"a", "b", "c", "d"}
	l := Line{Cmd: "grant", Words: words[:3]}
	for range 2 {
		if s, e := Print(l); s != "grant a b c" || e != api.OK {
			t.Errorf("Print: %q, %d", s, e)
		}
		Lines(l, 0, 1)
	}
	if !slices.Equal(words, []string{"a", "b", "c", "d"}) {
		t.Errorf("Print changed its words: %v", words)
	}
}

// R1, with bytes of all kinds.
func TestWild(t *testing.T) {
	r := rand.New(rand.NewSource(4))
	for range 20000 {
		b := make([]byte, r.Intn(12))
		for i := range b {
			b[i] = byte(r.Intn(256))
		}
		s := string(b)
		checkParse(t, s)
		checkParse(t, "s/"+s)
		checkParse(t, "d "+s)
		checkPrint(t, Line{Cmd: "s", Pat: s, Rep: s})
		checkPrint(t, Line{Cmd: s})
		checkPrint(t, Line{Cmd: "d", Words: []string{s}})
	}
}

// A mistake in the program itself is not told as one in the text.
func TestBlame(t *testing.T) {
	if e := blame(nil); e != api.OK {
		t.Errorf("nobody panicked: %d", e)
	}
	if e := blame(fault(api.ErrForm)); e != api.ErrForm {
		t.Errorf("the parser panicked: %d", e)
	}
	defer func() {
		if r := recover(); r != "other" {
			t.Errorf("%v", r)
		}
	}()
	blame("other")
	t.Error("another panic did not go on")
}
