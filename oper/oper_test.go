package oper

import (
	"fmt"
	"math"
	"math/rand"
	"slices"
	"strings"
	"testing"
	"unicode/utf8"

	"bureau/api"
	"bureau/edit"
	"bureau/strip"
)

type (
	text  = api.Text
	list  = []api.Run
	label = api.Label
)

// The chapter's own words, written out in another way than the program's: a text is a row of cells, and each operator builds the cells that stand there afterwards.

// cell is a byte with its label.
type cell struct {
	b byte
	l label
}

// cellsOf is each byte of a good text with its label.
func cellsOf(t text) []cell {
	var all []cell
	for _, r := range t.R {
		for range r.N {
			all = append(all, cell{t.S[len(all)], r.L})
		}
	}
	return all
}

// textOf is the one good text of given cells.
func textOf(cells []cell) text {
	var s strings.Builder
	var runs list
	for i, c := range cells {
		s.WriteByte(c.b)
		if i == 0 || cells[i-1].l != c.l {
			runs = append(runs, api.Run{L: c.l})
		}
		runs[len(runs)-1].N++
	}
	return text{S: s.String(), R: runs}
}

// fresh are cells of one label.
func fresh(s string, l label) []cell {
	var all []cell
	for i := range len(s) {
		all = append(all, cell{s[i], l})
	}
	return all
}

// seen is what a level sees of a cell.
func (c cell) seen(level label) byte {
	if c.l&^level != 0 {
		return '#'
	}
	return c.b
}

// viewOf is what a level sees of cells.
func viewOf(cells []cell, level label) string {
	var s strings.Builder
	for _, c := range cells {
		s.WriteByte(c.seen(level))
	}
	return s.String()
}

// blankCell: does a level see a blank in a cell?
func blankCell(c cell, level label) bool {
	return c.seen(level) == ' ' || c.seen(level) == '\t'
}

// row is a line of cells, and where it begins; its newline is not one of the cells.
type row struct {
	from  int
	cells []cell
}

// to is where a row ends.
func (r row) to() int { return r.from + len(r.cells) }

// rowsOf are the lines that a level sees.
func rowsOf(cells []cell, level label) []row {
	rows := []row{{}}
	for i, c := range cells {
		if c.seen(level) == '\n' {
			rows = append(rows, row{from: i + 1})
			continue
		}
		last := &rows[len(rows)-1]
		last.cells = append(last.cells, c)
	}
	return rows
}

// rowAt is the number of the line in which an offset lies.
func rowAt(rows []row, at int) int {
	n := 0
	for i, r := range rows {
		if r.from <= at {
			n = i
		}
	}
	return n
}

// startsOf is where the characters of a string begin, and its length.
func startsOf(s string) []int {
	var l []int
	for at := 0; at < len(s); {
		l = append(l, at)
		_, n := utf8.DecodeRuneInString(s[at:])
		at += n
	}
	return append(l, len(s))
}

// aligned is the last of the starts that is not behind an offset.
func aligned(s string, at int) int {
	place := 0
	for _, start := range startsOf(s) {
		if start <= at {
			place = start
		}
	}
	return place
}

// following is the first of the starts behind an offset, or the length.
func following(s string, at int) int {
	for _, start := range startsOf(s) {
		if start > at {
			return start
		}
	}
	return len(s)
}

// firstOf is where the first character of a line begins that is not blank, or its last one.
func firstOf(cells []cell, level label, n int) int {
	rows := rowsOf(cells, level)
	r := rows[min(n, len(rows)-1)]
	s := viewOf(r.cells, level)
	last := 0
	for _, start := range startsOf(s) {
		if start == len(s) {
			break
		}
		if s[start] != ' ' && s[start] != '\t' {
			return r.from + start
		}
		last = start
	}
	return r.from + last
}

// told is what the chapter wants: cells in place of others, or an error.
type told struct {
	err      api.Errno
	at       int
	old, new []cell
	reg      []cell
	lines    bool
	wide     bool
	place    int
}

// refused is an error and nothing else.
func refused(err api.Errno) told { return told{err: err} }

// after is what the cells of a text are behind what is told.
func (w told) after(cells []cell) []cell {
	return slices.Concat(cells[:w.at], w.new, cells[w.at+len(w.old):])
}

// bounded is what is told, or ErrBig.
func bounded(w told, cells []cell) told {
	if len(w.after(cells)) > 4096 {
		return refused(api.ErrBig)
	}
	return w
}

// out is what is told in the types of the program.
func (w told) out() Out {
	return Out{
		E:    api.Edit{At: w.at, Old: textOf(w.old), New: textOf(w.new)},
		Reg:  api.Entry{T: textOf(w.reg), Lines: w.lines},
		Wide: w.wide,
		At:   w.place,
	}
}

// wrongRange: is there no such range?
func wrongRange(cells []cell, rows []row, r Range) bool {
	if r.Lines {
		return r.From < 0 || r.To < r.From || r.To >= len(rows)
	}
	return r.From < 0 || r.To < r.From || r.To > len(cells)
}

// toldDo is what Do answers for a good text.
func toldDo(cells []cell, level label, op rune, r Range) told {
	rows := rowsOf(cells, level)
	if !strings.ContainsRune("dyc><~J", op) || wrongRange(cells, rows, r) {
		return refused(api.ErrArg)
	}
	from, to, a, b := r.From, r.To, r.From, r.To
	if r.Lines {
		from, to = rows[a].from, rows[b].to()
	} else {
		a = rowAt(rows, from)
		b = a
		if to-1 >= from {
			b = rowAt(rows, to-1)
		}
	}
	switch op {
	case '>', '<':
		return bounded(toldShift(cells, level, rows, a, b, op), cells)
	case 'J':
		return toldJoin(cells, level, rows, a, max(b, a+1))
	case '~':
		return toldTurn(cells, level, from, to)
	}
	return toldTake(cells, level, op, from, to, rows, r)
}

// toldTake is what y, d and c answer.
func toldTake(cells []cell, level label, op rune, from, to int, rows []row, r Range) told {
	w := told{at: from, place: from, lines: r.Lines, reg: cells[from:to]}
	w.wide = r.Lines || strings.Contains(viewOf(w.reg, level), "\n")
	if op == 'y' {
		return w
	}
	w.old = cells[from:to]
	if op == 'c' || !r.Lines {
		return w
	}
	w.old = nil
	for n := r.From; n <= r.To; n++ { // each line with its newline
		w.old = append(w.old, cells[rows[n].from:min(rows[n].to()+1, len(cells))]...)
	}
	if r.To == len(rows)-1 && r.From > 0 {
		w.at = rows[r.From-1].to()
		w.old = slices.Concat(cells[w.at:w.at+1], w.old)
	}
	w.place = firstOf(w.after(cells), level, r.From)
	return w
}

// toldShift is what > and < answer.
func toldShift(cells []cell, level label, rows []row, a, b int, op rune) told {
	w := told{at: rows[a].from, old: cells[rows[a].from:rows[b].to()]}
	for n := a; n <= b; n++ {
		own := rows[n].cells
		switch {
		case op == '>' && len(own) > 0:
			own = slices.Concat(fresh("\t", level), own)
		case op == '<' && len(own) > 0 && blankCell(own[0], level):
			own = own[1:]
		}
		w.new = append(w.new, own...)
		if n < b {
			w.new = append(w.new, cells[rows[n].to()])
		}
	}
	w.place = firstOf(w.after(cells), level, a)
	return w
}

// toldJoin is what J answers.
func toldJoin(cells []cell, level label, rows []row, a, b int) told {
	if b >= len(rows) {
		return refused(api.ErrNone)
	}
	w := told{at: rows[a].from, old: cells[rows[a].from:rows[b].to()]}
	for n := a; n <= b; n++ {
		own := rows[n].cells
		if n > a {
			w.place = w.at + len(w.new)
			for len(own) > 0 && blankCell(own[0], level) {
				own = own[1:]
			}
			if len(own) > 0 {
				w.new = append(w.new, fresh(" ", level)...)
			}
		}
		w.new = append(w.new, own...)
	}
	return w
}

// toldTurn is what ~ answers.
func toldTurn(cells []cell, level label, from, to int) told {
	w := told{at: from, place: from, old: cells[from:to]}
	for _, c := range w.old {
		switch s := string(rune(c.b)); {
		case c.l&^level != 0 || c.b >= 128:
		case c.b >= 'a' && c.b <= 'z':
			c.b = strings.ToUpper(s)[0]
		case c.b >= 'A' && c.b <= 'Z':
			c.b = strings.ToLower(s)[0]
		}
		w.new = append(w.new, c)
	}
	return w
}

// toldSwap is what Swap answers for a good text.
func toldSwap(cells []cell, level label, at, n int, k rune) told {
	if k < 32 || k == 127 || !utf8.ValidRune(k) {
		return refused(api.ErrArg)
	}
	n = meant(n)
	v := viewOf(cells, level)
	a := aligned(v, at)
	w := told{at: a, place: a}
	to := a
	for range n {
		if to == len(v) || v[to] == '\n' {
			return refused(api.ErrNone)
		}
		to = following(v, to)
		w.place = a + len(w.new)
		w.new = append(w.new, fresh(string(k), level)...)
	}
	w.old = cells[a:to]
	return bounded(w, cells)
}

// meant is a count within its limits.
func meant(n int) int {
	switch {
	case n < 1:
		return 1
	case n > 999:
		return 999
	}
	return n
}

// toldPut is what Put answers for good texts.
func toldPut(cells []cell, level label, at int, x []cell, lines, ahead bool, n int) told {
	v := viewOf(cells, level)
	a := aligned(v, at)
	rows := rowsOf(cells, level)
	own := rowAt(rows, a)
	end := fresh("\n", level)
	w := told{at: a}
	unit := x
	switch {
	case !lines && !ahead && a < len(v) && v[a] != '\n':
		w.at = following(v, a)
	case lines && ahead:
		w.at, unit = rows[own].from, slices.Concat(x, end)
	case lines && own+1 < len(rows):
		w.at, unit = rows[own+1].from, slices.Concat(x, end)
	case lines:
		w.at, unit = len(cells), slices.Concat(end, x)
	}
	if len(cells)+len(unit)*meant(n) > 4096 {
		return refused(api.ErrBig)
	}
	for range meant(n) {
		w.new = append(w.new, unit...)
	}
	after := w.after(cells)
	switch {
	case lines && ahead:
		w.place = firstOf(after, level, own)
	case lines:
		w.place = firstOf(after, level, own+1)
	case len(w.new) == 0:
		w.place = a
	default:
		w.place = aligned(viewOf(after, level), w.at+len(w.new)-1)
	}
	return w
}

// Comparing, and telling of what differs.

// show is a text in a failure's message.
func show(t text) string {
	return fmt.Sprintf("%.40q %v", t.S, t.R[:min(8, len(t.R))])
}

// showOut is an answer in a failure's message.
func showOut(o Out) string {
	return fmt.Sprintf("{%d: %s -> %s; Reg %s %t; Wide %t; At %d}", o.E.At, show(o.E.Old), show(o.E.New), show(o.Reg.T), o.Reg.Lines, o.Wide, o.At)
}

// sameEdit: do two edits have the same place and the same texts?
func sameEdit(a, b api.Edit) bool {
	return a.At == b.At && strip.Same(a.Old, b.Old) && strip.Same(a.New, b.New)
}

// sameOut: are two answers the same?
func sameOut(a, b Out) bool {
	return sameEdit(a.E, b.E) && strip.Same(a.Reg.T, b.Reg.T) && a.Reg.Lines == b.Reg.Lines && a.Wide == b.Wide && a.At == b.At
}

// expect compares an answer with what is told, and holds P14.5.
func expect(t *testing.T, cells []cell, got Out, err api.Errno, w told, call func() string) {
	t.Helper()
	if err != w.err || !sameOut(got, w.out()) {
		t.Fatalf("%s = %s, %d; not %s, %d", call(), showOut(got), err, showOut(w.out()), w.err)
	}
	if err != api.OK {
		return
	}
	before := textOf(cells)
	after, e := edit.Apply(before, got.E)
	if e != api.OK || !strip.Same(after, textOf(w.after(cells))) {
		t.Fatalf("%s: %s, applied: %s, %d", call(), showOut(got), show(after), e)
	}
	if back, e := edit.Apply(after, edit.Invert(got.E)); e != api.OK || !strip.Same(back, before) {
		t.Fatalf("%s: %s, undone: %s, %d", call(), showOut(got), show(back), e)
	}
}

// checkDo holds Do against the chapter.
func checkDo(t *testing.T, cells []cell, level label, op rune, r Range) {
	t.Helper()
	x := textOf(cells)
	w := toldDo(cells, level, op, r)
	got, err := Do(x, level, op, r)
	expect(t, cells, got, err, w, func() string { return fmt.Sprintf("Do(%s, %d, %c, %v)", show(x), level, op, r) })
}

// checkSwap holds Swap against the chapter.
func checkSwap(t *testing.T, cells []cell, level label, at, n int, k rune) {
	t.Helper()
	x := textOf(cells)
	got, err := Swap(x, level, at, n, k)
	expect(t, cells, got, err, toldSwap(cells, level, at, n, k), func() string {
		return fmt.Sprintf("Swap(%s, %d, %d, %d, %q)", show(x), level, at, n, k)
	})
}

// checkPut holds Put against the chapter.
func checkPut(t *testing.T, cells []cell, level label, at int, x []cell, lines, ahead bool, n int) {
	t.Helper()
	into := textOf(cells)
	entry := api.Entry{T: textOf(x), Lines: lines}
	got, err := Put(into, level, at, entry, ahead, n)
	expect(t, cells, got, err, toldPut(cells, level, at, x, lines, ahead, n), func() string {
		return fmt.Sprintf("Put(%s, %d, %d, %s %t, %t, %d)", show(into), level, at, show(entry.T), lines, ahead, n)
	})
}

// What is tried.

const operators = "dyc><~J"

// of is a text all of whose bytes have one label.
func of(s string, l label) text { return textOf(fresh(s, l)) }

// mixed are the cells of a string whose bytes take labels in turn.
func mixed(s string, labels ...label) []cell {
	all := fresh(s, 0)
	for i := range all {
		all[i].l = labels[i%len(labels)]
	}
	return all
}

// eachRow gives all rows of at most n of some cells.
func eachRow(kinds []cell, n int, each func([]cell)) {
	rows := [][]cell{nil}
	for len(rows) > 0 {
		own := rows[0]
		rows = rows[1:]
		each(own)
		if len(own) < n {
			for _, k := range kinds {
				rows = append(rows, append(slices.Clone(own), k))
			}
		}
	}
}

// rangesOf are all ranges in a text of n bytes, and some beyond them.
func rangesOf(n int) []Range {
	var l []Range
	for from := -1; from <= n+1; from++ {
		for to := from - 1; to <= n+1; to++ {
			l = append(l, Range{From: from, To: to}, Range{From: from, To: to, Lines: true})
		}
	}
	return l
}

// samples are texts with all sorts of lines, characters and labels.
func samples() [][]cell {
	strs := []string{
		"", "\n", "\n\n\n", "a", " ", "\t \t", "#", "\u00e9", "\xff", "a\n", "\na", " \n ", " a \n", "ab\n cd", "\n\n a.a\n\n",
		"aZ mN\n\t \tz{|}@[`~\n", "a  \n  b\n   \n\n c \n", "\ta\n b\n\t\tc\n \td\n\n#e", "\u00e9\u00c9 \u00df\n \u4f60\u597d, \U0001f600!\n",
		"a\xc3\xa9\xc3 \xe2\x82a\xe2\x82\xac\n\xa9.\xff\xff\n\n\ufffd\xff_\x80", "\r\n \r\na\vb\fc\x7f\n\r\n", "\u00a0a\n\u00a0b\n\u3000c", "\x00\n\x00",
		" a\n  b\n   c\n    d\n\n\n e", "\xc3\n\xa9\n\xe2\x82\n\xac", "A#b#\n#\n #", "a\n \n\t\n  \nb",
	}
	var all [][]cell
	for _, s := range strs {
		all = append(all, mixed(s, 1), mixed(s, 2), mixed(s, 1, 2), mixed(s, 2, 1), mixed(s, 0, 1, 1, 3), mixed(s, 1, 1, 1, 2, 1))
	}
	return all
}

// random is a text of at most n parts, whose labels change every few bytes.
func random(r *rand.Rand, n int) []cell {
	parts := []string{"a", "Z", " ", "\t", "\n", "\n", "#", ".", "\u00e9", "\u20ac", "\U0001f600", "\xc3", "\xa9", "ab c", "\n\n"}
	var s strings.Builder
	for range r.Intn(n + 1) {
		s.WriteString(parts[r.Intn(len(parts))])
	}
	all := fresh(s.String(), 1)
	l := label(1)
	for i := range all {
		if r.Intn(4) == 0 {
			l = []label{0, 1, 1, 1, 2, 3}[r.Intn(6)]
		}
		all[i].l = l
	}
	return all
}

// badTexts are not good, in one way or another.
func badTexts() []text {
	return []text{
		{S: "a"}, {R: list{{L: 1, N: 1}}}, {R: list{{L: 1, N: 0}}},
		{S: "ab", R: list{{L: 1, N: 1}}}, {S: "ab", R: list{{L: 1, N: 1}, {L: 1, N: 1}}}, {S: "ab", R: list{{L: 1, N: 3}, {L: 2, N: -1}}},
		{S: "a", R: list{{L: 1, N: math.MaxInt}, {L: 2, N: math.MaxInt}, {L: 1, N: 3}}},
		of(strings.Repeat("a", 4097), 1),
	}
}

// wild are offsets and counts that nothing has.
var wild = []int{math.MinInt, math.MinInt + 1, -4097, -1, 4097, math.MaxInt - 1, math.MaxInt}

// The chapter's example.

func TestExample(t *testing.T) {
	x := of("ab\n cd", 1)
	for _, c := range []struct {
		op   rune
		r    Range
		want Out
	}{
		{'d', Range{From: 1, To: 2}, Out{E: api.Edit{At: 1, Old: of("b", 1)}, Reg: api.Entry{T: of("b", 1)}, At: 1}},
		{'d', Range{Lines: true}, Out{E: api.Edit{Old: of("ab\n", 1)}, Reg: api.Entry{T: of("ab", 1), Lines: true}, Wide: true, At: 1}},
		{'J', Range{Lines: true}, Out{E: api.Edit{Old: of("ab\n cd", 1), New: of("ab cd", 1)}, At: 2}},
		{'>', Range{To: 1, Lines: true}, Out{E: api.Edit{Old: of("ab\n cd", 1), New: of("\tab\n\t cd", 1)}, At: 1}},
	} {
		if o, e := Do(x, 1, c.op, c.r); e != api.OK || !sameOut(o, c.want) {
			t.Errorf("%c %v: %s, %d", c.op, c.r, showOut(o), e)
		}
	}
	if o, e := Swap(x, 1, 0, 2, 'x'); e != api.OK || !sameOut(o, Out{E: api.Edit{Old: of("ab", 1), New: of("xx", 1)}, At: 1}) {
		t.Errorf("Swap: %s, %d", showOut(o), e)
	}
	if o, e := Swap(x, 1, 0, 3, 'x'); e != api.ErrNone || !sameOut(o, Out{}) {
		t.Errorf("Swap of three: %s, %d", showOut(o), e)
	}
	if o, e := Put(x, 1, 0, api.Entry{T: of("z", 1)}, false, 2); e != api.OK || !sameOut(o, Out{E: api.Edit{At: 1, New: of("zz", 1)}, At: 2}) {
		t.Errorf("Put: %s, %d", showOut(o), e)
	}
	if o, e := Put(x, 1, 0, api.Entry{T: of("q", 1), Lines: true}, false, 1); e != api.OK || !sameOut(o, Out{E: api.Edit{At: 3, New: of("q\n", 1)}, At: 3}) {
		t.Errorf("Put of lines: %s, %d", showOut(o), e)
	}
}

// P14.1

func TestSpan(t *testing.T) {
	const s = "a\u00e9\n\xe2\x82\n\u20ac b" // characters at 0, 1, 3, 4, 5, 6, 7, 10, 11
	for _, c := range []struct {
		at, to, kind int
		want         Range
	}{
		{0, 3, 0, Range{From: 0, To: 3}}, {3, 0, 0, Range{From: 0, To: 3}}, {2, 8, 0, Range{From: 1, To: 7}}, {8, 2, 0, Range{From: 1, To: 7}},
		{1, 2, 0, Range{From: 1, To: 1}}, {12, 12, 0, Range{From: 12, To: 12}}, {math.MinInt, math.MaxInt, 0, Range{From: 0, To: 12}},
		{0, 1, 1, Range{From: 0, To: 3}}, {2, 0, 1, Range{From: 0, To: 3}}, {8, 8, 1, Range{From: 7, To: 10}}, {9, 2, 1, Range{From: 1, To: 10}},
		{11, 4, 1, Range{From: 4, To: 12}}, {12, 12, 1, Range{From: 12, To: 12}}, {math.MaxInt, math.MinInt, 1, Range{From: 0, To: 12}},
		{0, 2, 2, Range{Lines: true}}, {3, 3, 2, Range{Lines: true}}, {5, 0, 2, Range{To: 1, Lines: true}}, {4, 6, 2, Range{From: 1, To: 1, Lines: true}},
		{12, 7, 2, Range{From: 2, To: 2, Lines: true}}, {math.MaxInt, math.MinInt, 2, Range{To: 2, Lines: true}},
		{8, 2, 3, Range{From: 1, To: 7}}, {8, 2, -1, Range{From: 1, To: 7}}, {0, 1, math.MaxInt, Range{From: 0, To: 1}}, {0, 1, math.MinInt, Range{From: 0, To: 1}},
	} {
		if got := Span(s, c.at, c.to, c.kind); got != c.want {
			t.Errorf("%d, %d, %d: %v, not %v", c.at, c.to, c.kind, got, c.want)
		}
	}
	if got := Span("", 5, -5, 1); got != (Range{}) {
		t.Errorf("in an empty string: %v", got)
	}
	if got := Span("", 5, -5, 2); got != (Range{Lines: true}) {
		t.Errorf("the lines of an empty string: %v", got)
	}
}

func TestSpanAlways(t *testing.T) {
	for _, cells := range samples() {
		s := viewOf(cells, math.MaxUint64)
		rows := rowsOf(cells, math.MaxUint64)
		for at := -2; at <= len(s)+2; at++ {
			for to := -2; to <= len(s)+2; to++ {
				x, y := aligned(s, at), aligned(s, to)
				if y < x {
					x, y = y, x
				}
				for kind, want := range []Range{{x, y, false}, {x, following(s, y), false}, {rowAt(rows, x), rowAt(rows, y), true}, {x, y, false}} {
					if got := Span(s, at, to, kind); got != want {
						t.Fatalf("%q, %d, %d, %d: %v, not %v", s, at, to, kind, got, want)
					}
				}
			}
		}
	}
}

// P14.2

// did is an operator on a text of one label, with all that it answers, written out.
type did struct {
	s             string
	op            rune
	r             Range
	at            int
	old, new, reg string
	lines, wide   bool
	place         int
	wantErr       api.Errno
}

// checkDid holds operators against what is written out.
func checkDid(t *testing.T, l []did) {
	t.Helper()
	for _, c := range l {
		want := Out{
			E:    api.Edit{At: c.at, Old: of(c.old, 1), New: of(c.new, 1)},
			Reg:  api.Entry{T: of(c.reg, 1), Lines: c.lines},
			Wide: c.wide, At: c.place,
		}
		if got, e := Do(of(c.s, 1), 1, c.op, c.r); e != c.wantErr || !sameOut(got, want) {
			t.Errorf("%q: %c %v: %s, %d; not %s, %d", c.s, c.op, c.r, showOut(got), e, showOut(want), c.wantErr)
		}
	}
}

// bytes and lines are ranges.
func bytes(from, to int) Range { return Range{From: from, To: to} }
func lines(from, to int) Range { return Range{From: from, To: to, Lines: true} }

func TestTake(t *testing.T) {
	checkDid(t, []did{
		{s: "ab\n cd", op: 'y', r: bytes(1, 2), at: 1, reg: "b", place: 1},
		{s: "ab\n cd", op: 'y', r: bytes(1, 4), at: 1, reg: "b\n ", wide: true, place: 1},
		{s: "ab\n cd", op: 'y', r: bytes(2, 3), at: 2, reg: "\n", wide: true, place: 2},
		{s: "ab\n cd", op: 'y', r: bytes(6, 6), at: 6, place: 6},
		{s: "ab\n cd", op: 'y', r: lines(1, 1), at: 3, reg: " cd", lines: true, wide: true, place: 3},
		{s: "ab\n cd", op: 'y', r: lines(0, 1), reg: "ab\n cd", lines: true, wide: true},
		{s: "", op: 'y', r: lines(0, 0), lines: true, wide: true},
		{s: "ab\n cd", op: 'd', r: bytes(1, 4), at: 1, old: "b\n ", reg: "b\n ", wide: true, place: 1},
		{s: "ab\n cd", op: 'd', r: bytes(3, 3), at: 3, place: 3},
		{s: "ab\n cd", op: 'd', r: bytes(4, 6), at: 4, old: "cd", reg: "cd", place: 4}, // behind the last character
		{s: "ab\n cd", op: 'd', r: lines(0, 1), old: "ab\n cd", reg: "ab\n cd", lines: true, wide: true},
		{s: "  a\n b\n\t\tc\nd", op: 'd', r: lines(0, 1), old: "  a\n b\n", reg: "  a\n b", lines: true, wide: true, place: 2},
		{s: "  a\n b\n\t\tc\n  d", op: 'd', r: lines(2, 3), at: 6, old: "\n\t\tc\n  d", reg: "\t\tc\n  d", lines: true, wide: true, place: 5},
		{s: "a\n\n  ", op: 'd', r: lines(1, 1), at: 2, old: "\n", reg: "", lines: true, wide: true, place: 3},
		{s: "", op: 'd', r: lines(0, 0), lines: true, wide: true},
		{s: "a\n", op: 'd', r: lines(1, 1), at: 1, old: "\n", lines: true, wide: true},
		{s: "ab\n cd", op: 'c', r: bytes(1, 4), at: 1, old: "b\n ", reg: "b\n ", wide: true, place: 1},
		{s: "ab\n cd\n", op: 'c', r: lines(0, 1), old: "ab\n cd", reg: "ab\n cd", lines: true, wide: true},
		{s: "ab\n cd", op: 'c', r: lines(1, 1), at: 3, old: " cd", reg: " cd", lines: true, wide: true, place: 3},
	})
}

func TestShift(t *testing.T) {
	checkDid(t, []did{
		{s: "a\n\n b\nc", op: '>', r: lines(0, 2), old: "a\n\n b", new: "\ta\n\n\t b", place: 1},
		{s: "a\n\n b\nc", op: '>', r: lines(1, 1), at: 2, place: 2},
		{s: "a\n\n b\nc", op: '>', r: bytes(4, 6), at: 3, old: " b", new: "\t b", place: 5},
		{s: "a\n\n b\nc", op: '>', r: bytes(0, 2), old: "a", new: "\ta", place: 1}, // byte 1 is the newline of line 0
		{s: "a\n\n b\nc", op: '>', r: bytes(0, 3), old: "a\n", new: "\ta\n", place: 1},
		{s: "a\n\n b\nc", op: '>', r: bytes(2, 2), at: 2, place: 2},
		{s: "a\n\n b\nc", op: '>', r: bytes(7, 7), at: 6, old: "c", new: "\tc", place: 7},
		{s: " \t", op: '>', r: bytes(2, 2), old: " \t", new: "\t \t", place: 2},
		{s: "", op: '>', r: bytes(0, 0)},
		{s: " a\n\t\tb\nc\n\n  ", op: '<', r: lines(0, 4), old: " a\n\t\tb\nc\n\n  ", new: "a\n\tb\nc\n\n "},
		{s: " a\n\t\tb\nc\n\n  ", op: '<', r: lines(1, 1), at: 3, old: "\t\tb", new: "\tb", place: 4},
		{s: " a\n\t\tb\nc\n\n  ", op: '<', r: bytes(7, 8), at: 7, old: "c", new: "c", place: 7},
		{s: "\u00a0a", op: '<', r: lines(0, 0), old: "\u00a0a", new: "\u00a0a"}, // a blank of another kind
		{s: "#a\n a", op: '<', r: lines(0, 0), old: "#a", new: "#a"},
		{s: "", op: '<', r: lines(0, 0)},
	})
}

func TestTurn(t *testing.T) {
	checkDid(t, []did{
		{s: "aZ_0@[`{\u00e9\xe1", op: '~', r: bytes(0, 11), old: "aZ_0@[`{\u00e9\xe1", new: "Az_0@[`{\u00e9\xe1"},
		{s: "zAmM", op: '~', r: bytes(1, 3), at: 1, old: "Am", new: "aM", place: 1},
		{s: "zA\nmM\n", op: '~', r: lines(0, 1), old: "zA\nmM", new: "Za\nMm"},
		{s: "zA\nmM\n", op: '~', r: lines(1, 1), at: 3, old: "mM", new: "Mm", place: 3},
		{s: "zA", op: '~', r: bytes(1, 1), at: 1, place: 1},
	})
}

func TestJoin(t *testing.T) {
	checkDid(t, []did{
		{s: "a\n \t b\nc", op: 'J', r: lines(0, 0), old: "a\n \t b", new: "a b", place: 1},
		{s: "a\n \t b\nc", op: 'J', r: lines(0, 1), old: "a\n \t b", new: "a b", place: 1},
		{s: "a\n \t b\nc", op: 'J', r: lines(0, 2), old: "a\n \t b\nc", new: "a b c", place: 3},
		{s: "a\n \t b\nc", op: 'J', r: lines(1, 1), at: 2, old: " \t b\nc", new: " \t b c", place: 6},
		{s: "a\n \t b\nc", op: 'J', r: bytes(0, 3), old: "a\n \t b", new: "a b", place: 1},
		{s: "a\n \t b\nc", op: 'J', r: bytes(1, 8), old: "a\n \t b\nc", new: "a b c", place: 3},
		{s: "a\n \t b\nc", op: 'J', r: bytes(6, 6), at: 2, old: " \t b\nc", new: " \t b c", place: 6},
		{s: "a\n  \nb", op: 'J', r: lines(0, 0), old: "a\n  ", new: "a", place: 1},
		{s: "a\n  \nb", op: 'J', r: lines(0, 2), old: "a\n  \nb", new: "a b", place: 1},
		{s: "a\nb\n\n", op: 'J', r: lines(0, 3), old: "a\nb\n\n", new: "a b", place: 3},
		{s: "\n\n\n", op: 'J', r: lines(0, 3), old: "\n\n\n"},
		{s: "a \n b", op: 'J', r: lines(0, 0), old: "a \n b", new: "a  b", place: 2},
		{s: "\n a", op: 'J', r: lines(0, 0), old: "\n a", new: " a"},
		{s: "a\n\u00a0b", op: 'J', r: lines(0, 0), old: "a\n\u00a0b", new: "a \u00a0b", place: 1},
		{s: "a", op: 'J', r: lines(0, 0), wantErr: api.ErrNone},
		{s: "a\nb", op: 'J', r: lines(1, 1), wantErr: api.ErrNone},
		{s: "a\nb", op: 'J', r: bytes(2, 3), wantErr: api.ErrNone},
		{s: "", op: 'J', r: bytes(0, 0), wantErr: api.ErrNone},
	})
}

// Bytes that are new have the level as label; all others keep theirs.
func TestLabels(t *testing.T) {
	const level = 5
	for _, c := range []struct {
		op   rune
		x    []cell
		want []cell
	}{
		{'>', mixed("a\nb", 1, 4, 2), slices.Concat(fresh("\t", level), fresh("a", 1), fresh("\n", 4), fresh("\t", level), fresh("b", 2))},
		{'J', mixed("a\n b", 1, 4, 4, 2), slices.Concat(fresh("a", 1), fresh(" ", level), fresh("b", 2))},
		{'~', mixed("aBc", 1, 4, 2), slices.Concat(fresh("A", 1), fresh("b", 4), fresh("c", 2))},
		{'<', mixed(" a\n\tb", 1, 2, 0, 4, 4), slices.Concat(fresh("a", 2), fresh("\n", 0), fresh("b", 4))},
		{'<', mixed(" a", 2, 1), mixed(" a", 2, 1)},
	} {
		last := strings.Count(viewOf(c.x, level), "\n")
		if o, e := Do(textOf(c.x), level, c.op, lines(0, last)); e != api.OK || !strip.Same(o.E.New, textOf(c.want)) {
			t.Errorf("%c: %s, %d", c.op, showOut(o), e)
		}
	}
	if o, e := Swap(of("a", 1), level, 0, 1, 0xE9); e != api.OK || !strip.Same(o.E.New, of("\u00e9", level)) {
		t.Errorf("Swap: %s, %d", showOut(o), e)
	}
	if o, e := Put(of("a", 1), level, 0, api.Entry{T: of("b", 2), Lines: true}, false, 2); e != api.OK || !strip.Same(o.E.New, textOf(mixed("\nb\nb", level, 2))) {
		t.Errorf("Put: %s, %d", showOut(o), e)
	}
}

// A hidden newline ends no line, a hidden blank is none, and a hidden letter has no case.
func TestHiddenBytes(t *testing.T) {
	x := mixed("a\n b\n\n c", 1, 2, 2, 2, 1, 1, 2, 1) // level 1 sees "a###\n\n#c"
	for _, c := range []struct {
		op   rune
		r    Range
		want Out
	}{
		{'y', bytes(0, 4), Out{Reg: api.Entry{T: textOf(x[:4])}}},
		{'d', lines(0, 0), Out{E: api.Edit{Old: textOf(x[:5])}, Reg: api.Entry{T: textOf(x[:4]), Lines: true}, Wide: true}},
		{'>', lines(1, 2), Out{E: api.Edit{At: 5, Old: textOf(x[5:]), New: textOf(slices.Concat(x[5:6], fresh("\t", 1), x[6:]))}, At: 5}},
		{'<', lines(2, 2), Out{E: api.Edit{At: 6, Old: textOf(x[6:]), New: textOf(x[6:])}, At: 6}},
		{'J', lines(0, 2), Out{E: api.Edit{Old: textOf(x), New: textOf(slices.Concat(x[:4], fresh(" ", 1), x[6:]))}, At: 4}},
		{'~', lines(0, 0), Out{E: api.Edit{Old: textOf(x[:4]), New: textOf(slices.Concat(fresh("A", 1), x[1:4]))}}},
	} {
		if o, e := Do(textOf(x), 1, c.op, c.r); e != api.OK || !sameOut(o, c.want) {
			t.Errorf("%c %v: %s, %d", c.op, c.r, showOut(o), e)
		}
	}
	if o, e := Do(textOf(x), 1, 'd', lines(0, 3)); e != api.ErrArg {
		t.Errorf("a line 3 that is hidden: %s, %d", showOut(o), e)
	}
}

func TestDoOnAll(t *testing.T) {
	kinds := []cell{{'a', 1}, {' ', 1}, {'\n', 1}, {'\n', 2}, {' ', 2}, {'Z', 0}}
	eachRow(kinds, 4, func(cells []cell) {
		for _, r := range rangesOf(len(cells)) {
			for _, op := range operators {
				checkDo(t, cells, 1, op, r)
			}
		}
	})
	eachRow([]cell{{'a', 1}, {'\t', 1}, {'\n', 1}}, 7, func(cells []cell) {
		for _, op := range "d><J" {
			for from := range 4 {
				for to := from; to < 6; to++ {
					checkDo(t, cells, 1, op, lines(from, to))
				}
			}
		}
	})
}

func TestDoOnSamples(t *testing.T) {
	for _, cells := range samples() {
		for _, r := range rangesOf(len(cells)) {
			for _, op := range operators {
				checkDo(t, cells, 1, op, r)
				checkDo(t, cells, 3, op, r)
			}
		}
	}
	r := rand.New(rand.NewSource(14))
	for range 20000 {
		cells := random(r, 40)
		from := r.Intn(len(cells) + 1)
		checkDo(t, cells, label(r.Intn(4)), rune(operators[r.Intn(7)]), bytes(from, from+r.Intn(len(cells)-from+1)))
		from = r.Intn(8)
		checkDo(t, cells, label(r.Intn(4)), rune(operators[r.Intn(7)]), lines(from, from+r.Intn(6)))
	}
}

func TestDoErrArg(t *testing.T) {
	for _, x := range badTexts() {
		for _, op := range operators {
			for _, r := range []Range{{}, lines(0, 0), bytes(0, 1)} {
				if o, e := Do(x, 1, op, r); e != api.ErrArg || !sameOut(o, Out{}) {
					t.Errorf("%s, %c %v: %s, %d", show(x), op, r, showOut(o), e)
				}
			}
		}
	}
	x := of("ab\ncd", 1)
	for _, op := range []rune{0, -1, 'x', 'D', 'Y', 'C', 'j', '`', '=', 'p', 0x10FFFF, math.MaxInt32, math.MinInt32, 'd' + 256, 'd' - 256} {
		if o, e := Do(x, 1, op, lines(0, 1)); e != api.ErrArg || !sameOut(o, Out{}) {
			t.Errorf("operator %d: %s, %d", op, showOut(o), e)
		}
	}
	for _, op := range operators {
		for _, n := range wild {
			for _, r := range []Range{bytes(n, n), bytes(n, 3), bytes(3, n), lines(n, n), lines(n, 1), lines(1, n)} {
				if o, e := Do(x, 1, op, r); e != api.ErrArg || !sameOut(o, Out{}) {
					t.Errorf("%c %v: %s, %d", op, r, showOut(o), e)
				}
			}
		}
		for _, r := range []Range{bytes(2, 1), bytes(-1, 0), bytes(0, 6), bytes(6, 6), lines(1, 0), lines(-1, 0), lines(0, 2), lines(2, 2)} {
			if o, e := Do(x, 1, op, r); e != api.ErrArg || !sameOut(o, Out{}) {
				t.Errorf("%c %v: %s, %d", op, r, showOut(o), e)
			}
		}
	}
}

// long is a text of n bytes, the lines of which have the bytes of one line of it.
func long(n int, of string) []cell {
	return fresh(strings.Repeat(of, n/len(of)+1)[:n], 1)
}

func TestDoErrBig(t *testing.T) {
	for _, n := range []int{2047, 2048, 2049, 2730, 2731, 3000, 4094, 4095, 4096} {
		for _, s := range []string{"a", "a\n", "\n", " \n", "aaa\n", "\n\n a"} {
			cells := long(n, s)
			last := len(rowsOf(cells, 1)) - 1
			for _, op := range operators {
				checkDo(t, cells, 1, op, lines(0, last))
				checkDo(t, cells, 1, op, lines(last, last))
				checkDo(t, cells, 1, op, lines(0, 0))
				checkDo(t, cells, 1, op, bytes(0, n))
			}
		}
	}
	for _, c := range []struct {
		n, to int
		want  api.Errno
	}{{4095, 0, api.OK}, {4096, 0, api.ErrBig}, {4094, 1, api.OK}, {4095, 1, api.ErrBig}} {
		x := slices.Concat(fresh("a\n", 1), long(c.n-2, "b"))
		o, e := Do(textOf(x), 1, '>', lines(0, c.to))
		if e != c.want || e != api.OK && !sameOut(o, Out{}) {
			t.Errorf("%d bytes: %s, %d", c.n, showOut(o), e)
		}
	}
}

// P14.3

func TestSwap(t *testing.T) {
	x := of("ab\u00e9\xffc\n\n\u20acd", 1) // characters at 0, 1, 2, 4, 5, 6, 7, 8, 11
	for _, c := range []struct {
		at, n int
		k     rune
		want  Out
		err   api.Errno
	}{
		{0, 1, 'x', Out{E: api.Edit{Old: of("a", 1), New: of("x", 1)}}, api.OK},
		{0, 5, 'x', Out{E: api.Edit{Old: of("ab\u00e9\xffc", 1), New: of("xxxxx", 1)}, At: 4}, api.OK},
		{3, 2, 0x20AC, Out{E: api.Edit{At: 2, Old: of("\u00e9\xff", 1), New: of("\u20ac\u20ac", 1)}, At: 5}, api.OK},
		{10, 2, ' ', Out{E: api.Edit{At: 8, Old: of("\u20acd", 1), New: of("  ", 1)}, At: 9}, api.OK},
		{math.MinInt, math.MinInt, 0xFFFD, Out{E: api.Edit{Old: of("a", 1), New: of("\ufffd", 1)}}, api.OK},
		{0, 6, 'x', Out{}, api.ErrNone}, {5, 2, 'x', Out{}, api.ErrNone}, {6, 1, 'x', Out{}, api.ErrNone}, {7, 0, 'x', Out{}, api.ErrNone},
		{12, 1, 'x', Out{}, api.ErrNone}, {math.MaxInt, 1, 'x', Out{}, api.ErrNone}, {0, math.MaxInt, 'x', Out{}, api.ErrNone},
	} {
		if o, e := Swap(x, 1, c.at, c.n, c.k); e != c.err || !sameOut(o, c.want) {
			t.Errorf("%d, %d, %q: %s, %d", c.at, c.n, c.k, showOut(o), e)
		}
	}
}

func TestSwapErrArg(t *testing.T) {
	for _, k := range []rune{math.MinInt32, -1, 0, 1, 8, 9, 10, 13, 27, 28, 31, 127, 0xD800, 0xDFFF, 0x110000, math.MaxInt32} {
		for _, x := range []text{of("abc", 1), {}} { // ErrArg goes before ErrNone
			if o, e := Swap(x, 1, 0, 1, k); e != api.ErrArg || !sameOut(o, Out{}) {
				t.Errorf("%q with %d: %s, %d", x.S, k, showOut(o), e)
			}
		}
	}
	for _, k := range []rune{32, 126, 128, 0xD7FF, 0xE000, 0x10FFFF} {
		if o, e := Swap(of("abc", 1), 1, 0, 1, k); e != api.OK || o.E.New.S != string(k) {
			t.Errorf("%d: %s, %d", k, showOut(o), e)
		}
	}
	for _, x := range badTexts() {
		if o, e := Swap(x, 1, 0, 1, 'x'); e != api.ErrArg || !sameOut(o, Out{}) {
			t.Errorf("%s: %s, %d", show(x), showOut(o), e)
		}
	}
}

func TestSwapOnAll(t *testing.T) {
	kinds := []cell{{'a', 1}, {'\xc3', 1}, {'\xa9', 1}, {'\n', 1}, {'\n', 2}, {'\xa9', 2}}
	eachRow(kinds, 4, func(cells []cell) {
		for at := -1; at <= len(cells)+1; at++ {
			for n := range 6 {
				checkSwap(t, cells, 1, at, n, 'x')
				checkSwap(t, cells, 1, at, n, 0x20AC)
			}
		}
	})
	for _, cells := range samples() {
		for at := -1; at <= len(cells)+1; at++ {
			for _, n := range []int{-1, 1, 2, 3, 5, 9} {
				checkSwap(t, cells, 1, at, n, 'x')
				checkSwap(t, cells, 3, at, n, 0x1F600)
			}
		}
	}
}

// A count above the limit is the limit, and what is too few comes before what is too big.
func TestSwapLimits(t *testing.T) {
	for _, n := range []int{998, 999, 1000, math.MaxInt} {
		for _, length := range []int{998, 999, 1000} {
			checkSwap(t, long(length, "a"), 1, 0, n, 'x')
			checkSwap(t, long(length, "a"), 1, 1, n, 0xE9)
			checkSwap(t, slices.Concat(long(4096-length, "\n"), long(length, "a")), 1, 4096-length, n, 0x1F600)
		}
	}
	full := textOf(slices.Concat(fresh("ab\n", 1), long(4093, "c")))
	for _, c := range []struct {
		n    int
		k    rune
		want api.Errno
	}{{2, 'x', api.OK}, {2, 0xE9, api.ErrBig}, {3, 0xE9, api.ErrNone}} {
		if o, e := Swap(full, 1, 0, c.n, c.k); e != c.want || e != api.OK && !sameOut(o, Out{}) {
			t.Errorf("%d, %q: %s, %d", c.n, c.k, showOut(o), e)
		}
	}
}

// P14.4

// laid is an entry put into a text of one label, with all that comes of it, written out.
type laid struct {
	s       string
	at      int
	x       string
	lines   bool
	ahead   bool
	n       int
	place   int
	put     string
	wantsAt int
}

func TestPut(t *testing.T) {
	for _, c := range []laid{
		{s: "ab\ncd", at: 0, x: "z", n: 1, place: 1, put: "z", wantsAt: 1},
		{s: "ab\ncd", at: 0, x: "z", ahead: true, n: 1, place: 0, put: "z", wantsAt: 0},
		{s: "ab\ncd", at: 1, x: "xy", n: 3, place: 2, put: "xyxyxy", wantsAt: 7},
		{s: "ab\ncd", at: 1, x: "xy", ahead: true, n: 3, place: 1, put: "xyxyxy", wantsAt: 6},
		{s: "ab\ncd", at: 2, x: "z", n: 1, place: 2, put: "z", wantsAt: 2},
		{s: "ab\ncd", at: 5, x: "z", n: 1, place: 5, put: "z", wantsAt: 5},
		{s: "ab\ncd", at: math.MaxInt, x: "z", n: math.MinInt, place: 5, put: "z", wantsAt: 5},
		{s: "ab\ncd", at: math.MinInt, x: "z", n: 1, place: 1, put: "z", wantsAt: 1},
		{s: "a\u00e9b", at: 2, x: "\u20ac", n: 2, place: 3, put: "\u20ac\u20ac", wantsAt: 6},
		{s: "a\u00e9b", at: 2, x: "\u20ac", ahead: true, n: 2, place: 1, put: "\u20ac\u20ac", wantsAt: 4},
		{s: "ab\ncd", at: 1, x: "", n: 5, place: 2, wantsAt: 1},
		{s: "ab\ncd", at: 1, x: "", ahead: true, n: 5, place: 1, wantsAt: 1},
		{s: "", at: 0, x: "a\nb", n: 1, place: 0, put: "a\nb", wantsAt: 2},
		{s: "\xc3b", at: 0, x: "\xa9", n: 1, place: 1, put: "\xa9", wantsAt: 0},    // one character with what is before it
		{s: "a\xa9", at: 0, x: "b\xc3", n: 1, place: 1, put: "b\xc3", wantsAt: 2},  // and with what is after it
		{s: "\xe2\xac", at: 0, x: "\x82", n: 1, place: 1, put: "\x82", wantsAt: 0}, // and with both
		{s: "ab\ncd", at: 1, x: " q", lines: true, n: 1, place: 3, put: " q\n", wantsAt: 4},
		{s: "ab\ncd", at: 1, x: " q", lines: true, n: 2, place: 3, put: " q\n q\n", wantsAt: 4},
		{s: "ab\ncd", at: 1, x: "  q", lines: true, ahead: true, n: 2, place: 0, put: "  q\n  q\n", wantsAt: 2},
		{s: "ab\ncd", at: 4, x: "q", lines: true, ahead: true, n: 1, place: 3, put: "q\n", wantsAt: 3},
		{s: "ab\ncd", at: 4, x: " q\nr", lines: true, n: 2, place: 5, put: "\n q\nr\n q\nr", wantsAt: 7},
		{s: "ab\n", at: 2, x: "q", lines: true, n: 1, place: 3, put: "q\n", wantsAt: 3},
		{s: "ab\n", at: 3, x: "q", lines: true, n: 1, place: 3, put: "\nq", wantsAt: 4},
		{s: "ab\n", at: 3, x: "q", lines: true, ahead: true, n: 1, place: 3, put: "q\n", wantsAt: 3},
		{s: "", at: 0, x: "", lines: true, n: 3, place: 0, put: "\n\n\n", wantsAt: 1},
		{s: "", at: 0, x: "", lines: true, ahead: true, n: 3, place: 0, put: "\n\n\n", wantsAt: 0},
		{s: "a", at: 0, x: "\t ", lines: true, n: 1, place: 1, put: "\n\t ", wantsAt: 3},
	} {
		want := Out{E: api.Edit{At: c.place, New: of(c.put, 1)}, At: c.wantsAt}
		if o, e := Put(of(c.s, 1), 1, c.at, api.Entry{T: of(c.x, 1), Lines: c.lines}, c.ahead, c.n); e != api.OK || !sameOut(o, want) {
			t.Errorf("%+v: %s, %d", c, showOut(o), e)
		}
	}
}

// What the level does not see of the entry, and of the text about it, is hidden from the places too.
func TestPutHidden(t *testing.T) {
	x := of("\n q", 2)
	for _, c := range []struct {
		ahead, lines bool
		want         Out
	}{
		{false, false, Out{E: api.Edit{At: 1, New: x}, At: 3}},
		{true, true, Out{E: api.Edit{New: textOf(mixed("\n q\n", 2, 2, 2, 1))}}},
		{false, true, Out{E: api.Edit{At: 4, New: textOf(mixed("\n\n q", 1, 2, 2, 2))}, At: 5}},
	} {
		into := textOf(mixed("a\nb\xc3", 1, 2, 1, 1)) // the line does not end at 1
		if o, e := Put(into, 1, 0, api.Entry{T: x, Lines: c.lines}, c.ahead, 1); e != api.OK || !sameOut(o, c.want) {
			t.Errorf("%t %t: %s, %d", c.ahead, c.lines, showOut(o), e)
		}
	}
	into := of("a\xc3", 1) // a hidden rest makes no character of it
	if o, e := Put(into, 1, 1, api.Entry{T: of("\xa9", 2)}, false, 1); e != api.OK || o.At != 2 {
		t.Errorf("a hidden rest of a character: %s, %d", showOut(o), e)
	}
}

func TestPutOnAll(t *testing.T) {
	kinds := []cell{{'a', 1}, {'\xc3', 1}, {'\xa9', 1}, {'\n', 1}, {'\n', 2}, {' ', 1}}
	entries := [][]cell{nil, fresh("z", 1), fresh("\xa9", 1), fresh("\xa9", 2), fresh("\xc3", 1), fresh("\n", 1), fresh("\n", 2), mixed(" q\n\xc3\xa9", 1, 2, 3), fresh("  \t", 1), fresh("b\u00e9", 0)}
	eachRow(kinds, 3, func(cells []cell) {
		for at := -1; at <= len(cells)+1; at++ {
			for _, x := range entries {
				for way := range 4 {
					checkPut(t, cells, 1, at, x, way&1 != 0, way&2 != 0, at+2)
				}
			}
		}
	})
	for i, cells := range samples() {
		for at := -1; at <= len(cells)+1; at++ {
			for way := range 4 {
				checkPut(t, cells, 1, at, entries[(i+at+1)%len(entries)], way&1 != 0, way&2 != 0, i%3)
				checkPut(t, cells, 3, at, entries[(i+at+4)%len(entries)], way&1 != 0, way&2 != 0, i%4)
			}
		}
	}
	r := rand.New(rand.NewSource(414))
	for range 10000 {
		cells := random(r, 30)
		checkPut(t, cells, label(r.Intn(4)), r.Intn(len(cells)+3)-1, random(r, 6), r.Intn(2) == 0, r.Intn(2) == 0, r.Intn(5))
	}
}

func TestPutErrArg(t *testing.T) {
	good := api.Entry{T: of("z", 1)}
	for _, x := range badTexts() {
		for way := range 4 {
			ahead, asLines := way&1 != 0, way&2 != 0
			for _, c := range []struct {
				t text
				x api.Entry
			}{{x, good}, {of("a", 1), api.Entry{T: x, Lines: asLines}}, {of(strings.Repeat("a", 4096), 1), api.Entry{T: x, Lines: asLines}}} {
				if o, e := Put(c.t, 1, 0, c.x, ahead, 1); e != api.ErrArg || !sameOut(o, Out{}) {
					t.Errorf("%s, %s: %s, %d", show(c.t), show(c.x.T), showOut(o), e)
				}
			}
		}
	}
}

func TestPutLimits(t *testing.T) {
	for _, n := range []int{1, 2, 3, 998, 999, 1000, math.MaxInt} {
		for _, length := range []int{0, 1, 3, 4, 5, 1365, 2047, 2048, 4095, 4096} {
			for _, free := range []int{0, 1, 2, 998, 999, 1000, 3995, 3996, 3997, 4096} {
				for way := range 4 {
					checkPut(t, long(4096-free, "a\nb"), 1, 1, long(length, "zy"), way&1 != 0, way&2 != 0, n)
				}
			}
		}
	}
	for way := range 2 {
		full := of(strings.Repeat("a", 4096), 1)
		if o, e := Put(full, 1, 0, api.Entry{}, way == 0, 999); e != api.OK || !sameEdit(o.E, api.Edit{At: way}) {
			t.Errorf("nothing into a full text: %s, %d", showOut(o), e)
		}
		if o, e := Put(full, 1, 0, api.Entry{Lines: true}, way == 0, 1); e != api.ErrBig || !sameOut(o, Out{}) {
			t.Errorf("a newline into a full text: %s, %d", showOut(o), e)
		}
	}
}

// P14.6

// disguised is a text that is alike for a level, but has other bytes where the level sees none.
func disguised(r *rand.Rand, cells []cell, level label) []cell {
	others := "\n\n a\tZ#\xc3\xa9\xe2"
	all := slices.Clone(cells)
	for i, c := range all {
		if c.l&^level != 0 {
			all[i].b = others[r.Intn(len(others))]
		}
	}
	return all
}

// alike: are two answers alike for a level?
func alike(a, b Out, level label) bool {
	return a.E.At == b.E.At && a.Wide == b.Wide && a.At == b.At && a.Reg.Lines == b.Reg.Lines &&
		strip.Low(a.E.Old, b.E.Old, level) && strip.Low(a.E.New, b.E.New, level) && strip.Low(a.Reg.T, b.Reg.T, level)
}

func TestAlike(t *testing.T) {
	r := rand.New(rand.NewSource(146))
	for range 10000 {
		level := label(r.Intn(4))
		x := random(r, 20)
		y := disguised(r, x, level)
		z := random(r, 5)
		both := [2]text{textOf(x), textOf(y)}
		entries := [2]text{textOf(z), textOf(disguised(r, z, level))}
		at, n, to, asLines := r.Intn(len(x)+2), r.Intn(4), r.Intn(len(x)+2), r.Intn(2) == 0
		for _, op := range operators {
			for _, q := range []Range{bytes(at, to), lines(at%4, to%5)} {
				checkAlike(t, level, func(i int) (Out, api.Errno) { return Do(both[i], level, op, q) })
			}
		}
		checkAlike(t, level, func(i int) (Out, api.Errno) { return Swap(both[i], level, at, n, 0xE9) })
		for _, ahead := range []bool{false, true} {
			checkAlike(t, level, func(i int) (Out, api.Errno) {
				return Put(both[i], level, at, api.Entry{T: entries[i], Lines: asLines}, ahead, n)
			})
		}
	}
}

// checkAlike compares what a call answers for two texts that are alike.
func checkAlike(t *testing.T, level label, call func(i int) (Out, api.Errno)) {
	t.Helper()
	a, e := call(0)
	b, f := call(1)
	if e != f || !alike(a, b, level) {
		t.Fatalf("level %d: %s, %d, but %s, %d", level, showOut(a), e, showOut(b), f)
	}
}

// P14.7

// applied is a text after an operator on it.
func applied(t *testing.T, x text, level label, op rune, r Range) (text, Out) {
	t.Helper()
	o, e := Do(x, level, op, r)
	after, f := edit.Apply(x, o.E)
	if e != api.OK || f != api.OK {
		t.Fatalf("%s: %c %v: %s, %d, %d", show(x), op, r, showOut(o), e, f)
	}
	return after, o
}

func TestThereAndBack(t *testing.T) {
	r := rand.New(rand.NewSource(147))
	for i := range 5000 {
		level := label(r.Intn(4))
		cells := random(r, 30)
		x := textOf(cells)
		from := r.Intn(len(cells) + 1)
		q := bytes(from, from+r.Intn(len(cells)-from+1))
		if i%2 == 0 {
			last := len(rowsOf(cells, level)) - 1
			from = r.Intn(last + 1)
			q = lines(from, from+r.Intn(last-from+1))
		}
		once, _ := applied(t, x, level, '~', q)
		if twice, _ := applied(t, once, level, '~', q); !strip.Same(twice, x) {
			t.Fatalf("%s, %v: ~ twice: %s", show(x), q, show(twice))
		}
		if q.Lines {
			in, _ := applied(t, x, level, '>', q)
			if out, _ := applied(t, in, level, '<', q); !strip.Same(out, x) {
				t.Fatalf("%s, %v: < after >: %s", show(x), q, show(out))
			}
		}
		checkBack(t, x, level, q)
	}
}

// checkBack puts what was deleted back at its place.
func checkBack(t *testing.T, x text, level label, q Range) {
	t.Helper()
	after, o := applied(t, x, level, 'd', q)
	p, e := Put(after, level, o.E.At, api.Entry{T: o.E.Old}, true, 1)
	back, f := edit.Apply(after, p.E)
	if p.E.At != o.E.At { // what was about the bytes has become one character: no place of its own is left between
		return
	}
	if e != api.OK || f != api.OK || !strip.Same(back, x) {
		t.Fatalf("%s, %v: put back: %s, %d, %d", show(x), q, show(back), e, f)
	}
}

// Whole lines that were deleted are back, too, when they are put as lines.
func TestLinesBack(t *testing.T) {
	x := of("a\n b\n\nc", 1)
	for from := range 4 {
		for to := from; to < 4; to++ {
			after, o := applied(t, x, 1, 'd', lines(from, to))
			ahead := to < 3
			if from == 0 && !ahead { // of no line one line is left, which was none
				continue
			}
			p, e := Put(after, 1, o.At, o.Reg, ahead, 1)
			back, f := edit.Apply(after, p.E)
			if e != api.OK || f != api.OK || !strip.Same(back, x) {
				t.Errorf("%d to %d: %s, %d, %d", from, to, show(back), e, f)
			}
		}
	}
}

// R1, R4 and R6

func TestWild(t *testing.T) {
	texts := append(badTexts(), text{}, of("ab\ncd", 1), textOf(mixed("\xc3\xa9\n \n", 1, 2)), of(strings.Repeat("a\n", 2048), 1))
	places := append([]int{0, 1, 4096}, wild...)
	for _, x := range texts {
		for _, at := range places {
			for _, n := range places {
				for _, k := range []rune{math.MinInt32, 0, 'd', 'J', '>', '~', 0xD800, math.MaxInt32} {
					Do(x, 1, k, bytes(at, n))
					Do(x, 1, k, lines(at, n))
					Swap(x, 1, at, n, k)
					Span(x.S, at, n, int(k))
				}
				Put(x, 1, at, api.Entry{T: x, Lines: n%2 == 0}, at%2 == 0, n)
			}
		}
	}
}

// listsOf are the lists that an answer has.
func listsOf(o Out) []list { return []list{o.E.Old.R, o.E.New.R, o.Reg.T.R} }

// checkOwn writes to each list of an answer, and sees whether anything else has changed.
func checkOwn(t *testing.T, name string, x text, call func() (Out, api.Errno)) {
	t.Helper()
	before := slices.Clone(x.R)
	o, e := call()
	if e != api.OK || !slices.Equal(x.R, before) {
		t.Fatalf("%s: %v, %d", name, x.R, e)
	}
	all := listsOf(o)
	for i, l := range all {
		for k := range l[:cap(l)] {
			l[:cap(l)][k] = api.Run{L: label(100 + i), N: -1 - i}
		}
	}
	for i, l := range all {
		for _, r := range l {
			if r.L != label(100+i) || r.N != -1-i {
				t.Errorf("%s: two lists of one answer share memory", name)
			}
		}
	}
	if !slices.Equal(x.R, before) {
		t.Errorf("%s: an answer shares memory with an argument", name)
	}
	again, _ := call()
	fresh, _ := call()
	if !sameOut(again, fresh) {
		t.Errorf("%s: %s, then %s", name, showOut(again), showOut(fresh))
	}
}

func TestOwnMemory(t *testing.T) {
	x := textOf(mixed("a\n b\nc", 1, 2, 1, 3, 1, 1))
	for _, op := range operators {
		for _, r := range []Range{bytes(0, 6), bytes(1, 5), lines(0, 0), lines(0, 1)} {
			checkOwn(t, string(op), x, func() (Out, api.Errno) { return Do(x, 3, op, r) })
		}
	}
	checkOwn(t, "Swap", x, func() (Out, api.Errno) { return Swap(x, 3, 0, 1, 'x') })
	for _, n := range []int{1, 2, 3} {
		for way := range 4 {
			entry := api.Entry{T: textOf(mixed("pq", 1, 2)), Lines: way&1 != 0}
			for _, own := range []text{x, entry.T} {
				checkOwn(t, "Put", own, func() (Out, api.Errno) { return Put(x, 3, 0, entry, way&2 != 0, n) })
			}
		}
	}
}
