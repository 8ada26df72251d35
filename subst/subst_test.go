package subst

import (
	"fmt"
	"math"
	"math/rand"
	"slices"
	"strings"
	"testing"

	"bureau/api"
	"bureau/edit"
	"bureau/strip"
)

type (
	text = api.Text
	list = []api.Run
)

// The chapter's own words, written out in another way than the program's: a text is a row of cells, and each line is gone through cell by cell.

// cell is a byte with its label.
type cell struct {
	b byte
	l api.Label
}

// textOf is the one good text of given cells.
func textOf(cells []cell) text {
	var s strings.Builder
	var runs list
	for i, c := range cells {
		s.WriteByte(c.b)
		if i == 0 || cells[i-1].l != c.l {
			runs = append(runs, api.Run{L: c.l})
		}
		runs[len(runs)-1].N++
	}
	return text{S: s.String(), R: runs}
}

// fresh are cells of one label.
func fresh(s string, l api.Label) []cell { return mixed(s, l) }

// mixed are the cells of a string whose bytes take labels in turn.
func mixed(s string, labels ...api.Label) []cell {
	var all []cell
	for i := range len(s) {
		all = append(all, cell{s[i], labels[i%len(labels)]})
	}
	return all
}

// of is a text all of whose bytes have one label.
func of(s string, l api.Label) text { return textOf(fresh(s, l)) }

// hidden: is a cell hidden from a level?
func (c cell) hidden(level api.Label) bool { return c.l&^level != 0 }

// shows: does a level see one certain byte in a cell?
func (c cell) shows(b byte, level api.Label) bool { return !c.hidden(level) && c.b == b }

// row is a line: its first cell, and the one behind its last.
type row struct{ from, to int }

// rowsOf are the lines that a level sees.
func rowsOf(cells []cell, level api.Label) []row {
	rows := []row{{}}
	for i, c := range cells {
		if c.shows('\n', level) {
			rows = append(rows, row{from: i + 1})
		}
		own := &rows[len(rows)-1]
		own.to = max(i+1, own.from)
		if c.shows('\n', level) {
			rows[len(rows)-2].to = i
		}
	}
	return rows
}

// stands: does a pattern stand at a place, in bytes that the level sees?
func stands(cells []cell, level api.Label, at int, pat string) bool {
	if at+len(pat) > len(cells) {
		return false
	}
	for i := range len(pat) {
		if !cells[at+i].shows(pat[i], level) {
			return false
		}
	}
	return true
}

// told is what the chapter wants: cells in place of others and a count, or an error.
type told struct {
	err      api.Errno
	at, n    int
	old, new []cell
}

// toldDo is what Do answers for a good text.
func toldDo(cells []cell, level api.Label, j Job) told {
	rows := rowsOf(cells, level)
	if j.A < 0 || j.B < j.A || j.B >= len(rows) || len(j.Pat) == 0 || strings.ContainsRune(j.Pat, 10) || len(j.Rep) > 4096 {
		return told{err: api.ErrArg}
	}
	w := told{at: rows[j.A].from, old: cells[rows[j.A].from:rows[j.B].to]}
	for n := j.A; n <= j.B; n++ {
		if n > j.A {
			w.new = append(w.new, cells[rows[n].from-1])
		}
		w.line(cells[rows[n].from:rows[n].to], level, j)
	}
	switch {
	case w.n == 0:
		return told{err: api.ErrNone}
	case len(cells)-len(w.old)+len(w.new) > 4096:
		return told{err: api.ErrBig}
	}
	return w
}

// line is what becomes of one line.
func (w *told) line(own []cell, level api.Label, j Job) {
	found := 0
	for at := 0; at < len(own); {
		if (found > 0 && !j.Every) || !stands(own, level, at, j.Pat) {
			w.new = append(w.new, own[at])
			at++
			continue
		}
		w.new = append(w.new, fresh(j.Rep, level)...)
		at += len(j.Pat)
		found++
	}
	w.n += found
}

// edit is what is told in the types of the program.
func (w told) edit() api.Edit {
	return api.Edit{At: w.at, Old: textOf(w.old), New: textOf(w.new)}
}

// Comparing, and telling of what differs.

// show is a text in a failure's message.
func show(t text) string {
	return fmt.Sprintf("%.40q %v", t.S, t.R[:min(8, len(t.R))])
}

// showEdit is an edit in a failure's message.
func showEdit(e api.Edit) string {
	return fmt.Sprintf("{%d: %s -> %s}", e.At, show(e.Old), show(e.New))
}

// showJob is a job in a failure's message.
func showJob(j Job) string {
	return fmt.Sprintf("{%d %d %.20q %.20q %t}", j.A, j.B, j.Pat, j.Rep, j.Every)
}

// sameEdit: do two edits have the same place and the same texts?
func sameEdit(a, b api.Edit) bool {
	return a.At == b.At && strip.Same(a.Old, b.Old) && strip.Same(a.New, b.New)
}

// check holds Do, and P15.2, against the chapter; it answers the text after the edit, and whether there is one.
func check(t *testing.T, cells []cell, level api.Label, j Job) (text, bool) {
	t.Helper()
	before := textOf(cells)
	w := toldDo(cells, level, j)
	got, n, err := Do(before, level, j)
	if err != w.err || n != w.n || !sameEdit(got, w.edit()) {
		t.Fatalf("Do(%s, %d, %s) = %s, %d, %d; not %s, %d, %d", show(before), level, showJob(j), showEdit(got), n, err, showEdit(w.edit()), w.n, w.err)
	}
	if err != api.OK {
		return text{}, false
	}
	after, e := edit.Apply(before, got)
	if e != api.OK || len(after.S)-len(before.S) != n*(len(j.Rep)-len(j.Pat)) {
		t.Fatalf("Do(%s, %d, %s) = %s, %d; applied: %s, %d", show(before), level, showJob(j), showEdit(got), n, show(after), e)
	}
	return after, true
}

// refuses wants an error and nothing else.
func refuses(t *testing.T, x text, level api.Label, j Job, want api.Errno) {
	t.Helper()
	if got, n, err := Do(x, level, j); err != want || n != 0 || !sameEdit(got, api.Edit{}) {
		t.Errorf("Do(%s, %d, %s) = %s, %d, %d; not %d", show(x), level, showJob(j), showEdit(got), n, err, want)
	}
}

// What is tried.

// eachRow gives all rows of at most n of some cells.
func eachRow(kinds []cell, n int, each func([]cell)) {
	rows := [][]cell{nil}
	for len(rows) > 0 {
		own := rows[0]
		rows = rows[1:]
		each(own)
		if len(own) < n {
			for _, k := range kinds {
				rows = append(rows, append(slices.Clone(own), k))
			}
		}
	}
}

// samples are texts with all sorts of lines, characters and labels.
func samples() [][]cell {
	strs := []string{
		"", "\n", "\n\n\n", "a", "#", "aab\naa", "aaaaa\naaaa\naaa", "ababa\nabab\n\nbaba\n", "a#b##\n###\n#", "a\nb\na\nb", "xaaxaax\n\nax",
		"\u00e9\u00c9\n\u20ac\xe2\x82a\xac\n\xc3\xa9\xa9", "abcabc abcab\ncabcabc\n", "a\r\na\r\n", "\x00a\x00\na\x00",
	}
	var all [][]cell
	for _, s := range strs {
		all = append(all, mixed(s, 1), mixed(s, 2), mixed(s, 1, 2), mixed(s, 2, 1), mixed(s, 0, 1, 1, 3), mixed(s, 1, 1, 1, 2, 1))
	}
	return all
}

// patterns are looked for, and put in, in all of those.
var patterns = []string{"a", "aa", "ab", "aba", "#", "##", "a#", "#b", "b", "abc", "abcabc", "\xa9", "\u00e9", "\u20ac", "\xac", "\r", "\x00", "x", "aab", "aabaa"}

// random is a text of at most n parts, whose labels change every few bytes.
func random(r *rand.Rand, n int) []cell {
	parts := []string{"a", "a", "b", "\n", "\n", "#", "aa", "ab", "ba", "##", "\u00e9", "\xa9", "a\na"}
	var s strings.Builder
	for range r.Intn(n + 1) {
		s.WriteString(parts[r.Intn(len(parts))])
	}
	all := fresh(s.String(), 1)
	l := api.Label(1)
	for i := range all {
		if r.Intn(4) == 0 {
			l = []api.Label{0, 1, 1, 1, 2, 3}[r.Intn(6)]
		}
		all[i].l = l
	}
	return all
}

// someJob is a job for a text of some lines; now and then there are no such lines.
func someJob(r *rand.Rand, lines int) Job {
	a := r.Intn(lines)
	return Job{
		A: a, B: a + r.Intn(lines-a) + r.Intn(8)/7,
		Pat:   []string{"a", "a", "b", "aa", "ab", "aba", "#", "\xa9", "\xc3"}[r.Intn(9)],
		Rep:   []string{"", "a", "aa", "xy", "b", "#", "\n", "a\nb", "\u20ac"}[r.Intn(9)],
		Every: r.Intn(3) > 0,
	}
}

// badTexts are not good, in one way or another.
func badTexts() []text {
	return []text{
		{S: "a"}, {R: list{{L: 1, N: 1}}}, {R: list{{L: 1, N: 0}}},
		{S: "ab", R: list{{L: 1, N: 1}}}, {S: "ab", R: list{{L: 1, N: 1}, {L: 1, N: 1}}}, {S: "ab", R: list{{L: 1, N: 3}, {L: 2, N: -1}}},
		{S: "a", R: list{{L: 1, N: math.MaxInt}, {L: 2, N: math.MaxInt}, {L: 1, N: 3}}},
		of(strings.Repeat("a", 4097), 1),
	}
}

// The chapter's example.

func TestExample(t *testing.T) {
	x := of("aab\naa", 1)
	for _, c := range []struct {
		j        Job
		old, new string
		n        int
	}{
		{Job{B: 1, Pat: "a", Rep: "xy", Every: true}, "aab\naa", "xyxyb\nxyxy", 4},
		{Job{B: 1, Pat: "a", Rep: "xy"}, "aab\naa", "xyab\nxya", 2},
		{Job{Pat: "aa", Every: true}, "aab", "b", 1},
	} {
		want := api.Edit{Old: of(c.old, 1), New: of(c.new, 1)}
		if e, n, err := Do(x, 1, c.j); err != api.OK || n != c.n || !sameEdit(e, want) {
			t.Errorf("%s: %s, %d, %d", showJob(c.j), showEdit(e), n, err)
		}
	}
	refuses(t, x, 1, Job{A: 1, B: 1, Pat: "b", Rep: "x"}, api.ErrNone)
	refuses(t, x, 1, Job{Pat: ""}, api.ErrArg)
	refuses(t, textOf(mixed("a#b", 1, 2, 1)), 1, Job{Pat: "#", Rep: "x"}, api.ErrNone)
}

// P15.1

// done is a job in a text of label 1 at level 1, with all that comes of it, written out.
type done struct {
	s        string
	j        Job
	at, n    int
	old, new string
}

func TestDo(t *testing.T) {
	for _, c := range []done{
		{"ab\nab\nab", Job{A: 1, B: 1, Pat: "a", Rep: "x"}, 3, 1, "ab", "xb"},
		{"ab\nab\nab", Job{A: 1, B: 2, Pat: "b", Rep: ""}, 3, 2, "ab\nab", "a\na"},
		{"ab\nab\n", Job{A: 0, B: 2, Pat: "ab", Rep: "", Every: true}, 0, 2, "ab\nab\n", "\n\n"},
		{"ab\ncd\nab", Job{A: 0, B: 1, Pat: "d", Rep: "e"}, 0, 1, "ab\ncd", "ab\nce"},
		{"aaaaa", Job{Pat: "aa", Rep: "b", Every: true}, 0, 2, "aaaaa", "bba"},
		{"aaaaa", Job{Pat: "aa", Rep: "b"}, 0, 1, "aaaaa", "baaa"},
		{"ababa", Job{Pat: "aba", Rep: "x", Every: true}, 0, 1, "ababa", "xba"},
		{"aa", Job{Pat: "a", Rep: "aa", Every: true}, 0, 2, "aa", "aaaa"}, // what comes in is not looked at again
		{"aabb", Job{Pat: "ab", Rep: "", Every: true}, 0, 1, "aabb", "ab"},
		{"abab", Job{Pat: "b", Rep: "\n", Every: true}, 0, 2, "abab", "a\na\n"},
		{"#a#", Job{Pat: "#", Rep: "b", Every: true}, 0, 2, "#a#", "bab"},
		{"a.b*c", Job{Pat: ".b*", Rep: "&\\1", Every: true}, 0, 1, "a.b*c", "a&\\1c"}, // every byte means itself
		{"aAa", Job{Pat: "A", Rep: "b", Every: true}, 0, 1, "aAa", "aba"},
		{"a\u00e9b", Job{Pat: "\xa9", Rep: "x"}, 0, 1, "a\u00e9b", "a\xc3xb"}, // bytes are looked for, not characters
	} {
		want := api.Edit{At: c.at, Old: of(c.old, 1), New: of(c.new, 1)}
		if e, n, err := Do(of(c.s, 1), 1, c.j); err != api.OK || n != c.n || !sameEdit(e, want) {
			t.Errorf("%q, %s: %s, %d, %d", c.s, showJob(c.j), showEdit(e), n, err)
		}
	}
}

func TestErrNone(t *testing.T) {
	for _, c := range []struct {
		s string
		j Job
	}{
		{"", Job{Pat: "a"}},
		{"\n", Job{B: 1, Pat: "a", Every: true}},
		{"b\na\nb", Job{Pat: "a"}},
		{"b\na\nb", Job{A: 2, B: 2, Pat: "a"}},
		{"a\nb", Job{B: 1, Pat: "ab", Every: true}}, // no occurrence reaches over a newline
		{"aaa", Job{Pat: "aaaa"}},
		{"a", Job{Pat: strings.Repeat("a", 5000)}},
		{"a", Job{Pat: "b", Rep: strings.Repeat("a", 4096)}}, // ErrNone goes before ErrBig
	} {
		refuses(t, of(c.s, 1), 1, c.j, api.ErrNone)
	}
}

func TestErrArg(t *testing.T) {
	x := of("ab\nab", 1)
	long := strings.Repeat("x", 4097)
	wild := []int{math.MinInt, math.MinInt + 1, -4097, -1, 2, 4097, math.MaxInt - 1, math.MaxInt}
	for _, pat := range []string{"a", "z"} { // ErrArg goes before ErrNone
		for _, n := range wild {
			for _, j := range []Job{{A: n, B: n}, {A: n, B: 1}, {A: 0, B: n}, {A: 1, B: n}} {
				j.Pat = pat
				refuses(t, x, 1, j, api.ErrArg)
			}
		}
		refuses(t, x, 1, Job{A: 1, B: 0, Pat: pat}, api.ErrArg)
		refuses(t, x, 1, Job{B: 1, Pat: pat, Rep: long}, api.ErrArg)
		refuses(t, x, 1, Job{B: 1, Pat: pat + "\n"}, api.ErrArg)
		refuses(t, x, 1, Job{B: 1, Pat: "\n" + pat}, api.ErrArg)
		for _, bad := range badTexts() {
			refuses(t, bad, 1, Job{Pat: pat, Rep: "b"}, api.ErrArg)
			refuses(t, bad, 1, Job{Pat: pat, Rep: long[1:]}, api.ErrArg) // and before ErrBig
		}
	}
	for _, pat := range []string{"", "\n", "b\na"} {
		refuses(t, x, 1, Job{B: 1, Pat: pat, Rep: "x"}, api.ErrArg)
	}
	hidden := textOf(mixed("a\nb", 1, 2, 1))
	refuses(t, hidden, 1, Job{B: 1, Pat: "a"}, api.ErrArg) // level 1 sees one line
	refuses(t, text{}, 1, Job{A: 1, B: 1, Pat: "a"}, api.ErrArg)
}

func TestErrBig(t *testing.T) {
	for _, c := range []struct {
		length, rep int
		every       bool
		want        api.Errno
	}{
		{1, 4096, true, api.OK}, {2, 4096, false, api.ErrBig}, {2, 4095, false, api.OK}, {2, 2048, true, api.OK}, {2, 2049, true, api.ErrBig},
		{4096, 1, true, api.OK}, {4096, 0, true, api.OK}, {4096, 2, false, api.ErrBig}, {4095, 2, false, api.OK}, {4095, 2, true, api.ErrBig},
		{2048, 2, true, api.OK}, {2049, 2, true, api.ErrBig},
	} {
		cells := fresh(strings.Repeat("a", c.length), 1)
		j := Job{Pat: "a", Rep: strings.Repeat("b", c.rep), Every: c.every}
		if after, _ := check(t, cells, 1, j); (after.S != "" || c.rep == 0) != (c.want == api.OK) {
			t.Errorf("%d bytes, %s with %d: not %d", c.length, showJob(j), c.rep, c.want)
		}
	}
	refuses(t, of(strings.Repeat("a", 4096), 1), 1, Job{Pat: "a", Rep: strings.Repeat("b", 4096), Every: true}, api.ErrBig)
	// The other lines count as well, and those that a job does not reach are not looked at.
	x := slices.Concat(fresh("ab\n", 1), fresh(strings.Repeat("a", 4093), 1))
	check(t, x, 1, Job{Pat: "a", Rep: "c"})
	refuses(t, textOf(x), 1, Job{Pat: "a", Rep: "cc"}, api.ErrBig)
	for _, s := range []string{"a", "ab", "a\n", "aa\n", "\n", "a\n\nb"} {
		for _, labels := range [][]api.Label{{1}, {1, 0}, {1, 1, 2}} {
			cells := mixed(strings.Repeat(s, 4096/len(s)), labels...)
			for _, j := range []Job{{Pat: "a", Rep: "c"}, {Pat: "a"}, {Pat: "aa", Rep: "cc"}, {Pat: "a", Rep: "\n"}, {Pat: "ab", Rep: "a"}, {Pat: "a", Rep: "aa"}} {
				j.B = len(rowsOf(cells, 1)) - 1
				check(t, cells, 1, j)
				j.Every = true
				check(t, cells, 1, j)
			}
		}
	}
}

// The new bytes have the level as label, and all others keep theirs.
func TestLabels(t *testing.T) {
	const level = 7
	j := Job{B: 1, Pat: "a", Rep: "xy", Every: true}
	want := slices.Concat(fresh("xy", level), fresh("b", 2), fresh("xy", level), fresh("\n", 1), fresh("b", 2), fresh("xyxy", level))
	e, n, err := Do(textOf(mixed("aba\nbaa", 1, 2, 4)), level, j)
	if err != api.OK || n != 4 || !strip.Same(e.New, textOf(want)) {
		t.Errorf("%s, %d, %d", showEdit(e), n, err)
	}
	if !strip.Same(e.Old, textOf(mixed("aba\nbaa", 1, 2, 4))) {
		t.Errorf("Old: %s", show(e.Old))
	}
	// An occurrence may have several labels, if the level sees them all.
	e, n, err = Do(textOf(mixed("ab", 1, 2)), 3, Job{Pat: "ab", Rep: "c"})
	if err != api.OK || n != 1 || !strip.Same(e.New, of("c", 3)) {
		t.Errorf("%s, %d, %d", showEdit(e), n, err)
	}
}

// A hidden byte is in no occurrence, and a hidden newline ends no line.
func TestHiddenBytes(t *testing.T) {
	x := mixed("#a\n#ab", 2, 1, 2, 1, 1, 2) // level 1 sees "#a##a#" in one line
	for _, c := range []struct {
		pat  string
		want []int // where
	}{
		{"#", []int{3}}, {"a", []int{1, 4}}, {"#a", []int{3}}, {"b", nil}, {"##", nil}, {"a#", nil}, {"ab", nil},
	} {
		j := Job{Pat: c.pat, Rep: "x", Every: true}
		if len(c.want) == 0 {
			refuses(t, textOf(x), 1, j, api.ErrNone)
			continue
		}
		var want []cell
		at := 0
		for _, place := range c.want {
			want = slices.Concat(want, x[at:place], fresh("x", 1))
			at = place + len(c.pat)
		}
		want = append(want, x[at:]...)
		if e, n, err := Do(textOf(x), 1, j); err != api.OK || n != len(c.want) || !sameEdit(e, api.Edit{Old: textOf(x), New: textOf(want)}) {
			t.Errorf("%q: %s, %d, %d", c.pat, showEdit(e), n, err)
		}
	}
	e, n, err := Do(textOf(x), 1, Job{Pat: "a", Rep: "x"}) // the first one of the one line
	if want := slices.Concat(x[:1], fresh("x", 1), x[2:]); err != api.OK || n != 1 || !strip.Same(e.New, textOf(want)) {
		t.Errorf("%s, %d, %d", showEdit(e), n, err)
	}
	// A newline that level 3 sees ends a line for level 3.
	e, n, err = Do(textOf(x), 3, Job{A: 1, B: 1, Pat: "a", Rep: "x"})
	if want := slices.Concat(x[3:4], fresh("x", 3), x[5:]); err != api.OK || n != 1 || !sameEdit(e, api.Edit{At: 3, Old: textOf(x[3:]), New: textOf(want)}) {
		t.Errorf("%s, %d, %d", showEdit(e), n, err)
	}
}

func TestDoOnAll(t *testing.T) {
	kinds := []cell{{'a', 1}, {'b', 0}, {'\n', 1}, {'\n', 2}, {'a', 2}, {'#', 1}}
	pats := []string{"a", "b", "#", "aa", "ab", "a#", "#a", "aba"}
	reps := []string{"", "a", "cc", "a\nb"}
	eachRow(kinds, 4, func(cells []cell) {
		for _, level := range []api.Label{0, 1, 3} {
			for a := range len(rowsOf(cells, level)) {
				for b := a - 1; b < 4; b++ {
					for i, pat := range pats {
						j := Job{A: a, B: b, Pat: pat, Rep: reps[(a+b+i+len(cells)+1)%4], Every: true}
						check(t, cells, level, j)
						j.Every = false
						check(t, cells, level, j)
					}
				}
			}
		}
	})
	eachRow([]cell{{'a', 1}, {'b', 1}, {'\n', 1}}, 7, func(cells []cell) {
		last := len(rowsOf(cells, 1)) - 1
		for i, pat := range pats {
			check(t, cells, 1, Job{B: last, Pat: pat, Rep: reps[i%4], Every: true})
			check(t, cells, 1, Job{A: last / 2, B: last, Pat: pat, Rep: reps[i%4]})
		}
	})
}

func TestDoOnSamples(t *testing.T) {
	for i, cells := range samples() {
		for a := range 5 {
			for b := a; b < 6; b++ {
				for k, pat := range patterns {
					for _, every := range []bool{false, true} {
						j := Job{A: a, B: b, Pat: pat, Rep: patterns[(i+k+a+b)%len(patterns)], Every: every}
						check(t, cells, 1, j)
						check(t, cells, 3, j)
					}
				}
			}
		}
	}
	r := rand.New(rand.NewSource(15))
	for range 30000 {
		cells := random(r, 40)
		level := api.Label(r.Intn(4))
		check(t, cells, level, someJob(r, len(rowsOf(cells, level))))
	}
}

// P15.3

func TestNoneLeft(t *testing.T) {
	r := rand.New(rand.NewSource(153))
	reps := []string{"x", "yx", "\u20ac", "\t\t"}
	for range 10000 {
		level := api.Label(r.Intn(4))
		cells := random(r, 30)
		j := someJob(r, len(rowsOf(cells, level)))
		j.Every, j.Rep = true, reps[r.Intn(4)]
		if after, ok := check(t, cells, level, j); ok {
			refuses(t, after, level, j, api.ErrNone)
		}
	}
}

// P15.4

func TestItself(t *testing.T) {
	r := rand.New(rand.NewSource(154))
	for range 10000 {
		level := api.Label(r.Intn(4))
		cells := random(r, 30)
		j := someJob(r, len(rowsOf(cells, level)))
		j.Rep = j.Pat
		if after, ok := check(t, cells, level, j); ok && after.S != textOf(cells).S {
			t.Fatalf("%s, %s: %s", show(textOf(cells)), showJob(j), show(after))
		}
	}
	full := fresh(strings.Repeat("ab", 2048), 1)
	check(t, full, 1, Job{Pat: "ab", Rep: "ab", Every: true})
}

// P15.5

// disguised is a text that is alike for a level, but has other bytes where the level sees none.
func disguised(r *rand.Rand, cells []cell, level api.Label) []cell {
	others := "\n\naab#\xc3\xa9"
	all := slices.Clone(cells)
	for i, c := range all {
		if c.hidden(level) {
			all[i].b = others[r.Intn(len(others))]
		}
	}
	return all
}

func TestAlike(t *testing.T) {
	r := rand.New(rand.NewSource(155))
	for range 20000 {
		level := api.Label(r.Intn(4))
		x := random(r, 20)
		y := disguised(r, x, level)
		j := someJob(r, len(rowsOf(x, level)))
		a, n, e := Do(textOf(x), level, j)
		b, m, f := Do(textOf(y), level, j)
		if e != f || n != m || a.At != b.At || !strip.Low(a.Old, b.Old, level) || !strip.Low(a.New, b.New, level) {
			t.Fatalf("%s, %s: %s, %d, %d, but %s, %d, %d", show(textOf(x)), showJob(j), showEdit(a), n, e, showEdit(b), m, f)
		}
	}
}

// R1, R4 and R6

func TestWild(t *testing.T) {
	texts := append(badTexts(), text{}, of("ab\ncd", 1), textOf(mixed("\xc3\xa9\n \n", 1, 2)), of(strings.Repeat("a\n", 2048), 1))
	places := []int{math.MinInt, -1, 0, 1, 2048, 4096, math.MaxInt}
	strs := []string{"", "a", "\n", "#", "a\n", strings.Repeat("a", 4096), strings.Repeat("a", 4097), strings.Repeat("a", 100000)}
	for _, x := range texts {
		for _, a := range places {
			for _, b := range places {
				for i, pat := range strs {
					for k, rep := range strs {
						Do(x, api.Label(i), Job{A: a, B: b, Pat: pat, Rep: rep, Every: k%2 == 0})
					}
				}
			}
		}
	}
}

func TestOwnMemory(t *testing.T) {
	x := textOf(mixed("a\nba\nc", 1, 2, 1, 3, 1, 1))
	before := slices.Clone(x.R)
	j := Job{B: 2, Pat: "a", Rep: "xy", Every: true}
	e, n, err := Do(x, 3, j)
	if err != api.OK || n != 2 || !slices.Equal(x.R, before) {
		t.Fatalf("%s, %d, %d; %v", showEdit(e), n, err, x.R)
	}
	lists := []list{e.Old.R, e.New.R}
	for i, l := range lists {
		for k := range l[:cap(l)] {
			l[:cap(l)][k] = api.Run{L: api.Label(100 + i), N: -1 - i}
		}
	}
	for i, l := range lists {
		for _, r := range l {
			if r.L != api.Label(100+i) || r.N != -1-i {
				t.Error("two lists of one answer share memory")
			}
		}
	}
	if !slices.Equal(x.R, before) {
		t.Error("an answer shares memory with an argument")
	}
	again, _, _ := Do(x, 3, j)
	if w := toldDo(mixed("a\nba\nc", 1, 2, 1, 3, 1, 1), 3, j); !sameEdit(again, w.edit()) {
		t.Errorf("then %s", showEdit(again))
	}
}
