package piece

import (
	"fmt"
	"math"
	"slices"
	"strings"
	"testing"

	"bureau/api"
	"bureau/strip"
)

type (
	text = api.Text
	list = []api.Run
)

// The chapter's own words, written out byte by byte, in another way than the program's.

// cell is a byte with its label.
type cell struct {
	b byte
	l api.Label
}

// model is what the chapter says that a store contains.
type model struct {
	most  int
	cells []cell
}

// cellsOf is each byte of a good text with its label.
func cellsOf(t text) []cell {
	var all []cell
	for _, r := range t.R {
		for range r.N {
			all = append(all, cell{t.S[len(all)], r.L})
		}
	}
	return all
}

// textOf is the one good text of given cells.
func textOf(cells []cell) text {
	var s strings.Builder
	var runs list
	for i, c := range cells {
		s.WriteByte(c.b)
		if i == 0 || cells[i-1].l != c.l {
			runs = append(runs, api.Run{L: c.l})
		}
		runs[len(runs)-1].N++
	}
	return text{S: s.String(), R: runs}
}

// put is the error of a Put of a good text, and what it does to the cells if there is none.
func (m *model) put(from, to int, t text) api.Errno {
	if from < 0 || from > to || to > len(m.cells) {
		return api.ErrArg
	}
	cells := slices.Concat(m.cells[:from], cellsOf(t), m.cells[to:])
	if len(cells) > m.most {
		return api.ErrFull
	}
	m.cells = cells
	return api.OK
}

// copied is another model that is alike.
func (m *model) copied() *model {
	return &model{m.most, slices.Clone(m.cells)}
}

// expect compares all that a store answers without arguments with the model.
func expect(t *testing.T, after string, s *Store, m *model) {
	t.Helper()
	want := textOf(m.cells)
	if got := s.Text(); !strip.Same(got, want) {
		t.Fatalf("after %s: Text = %s, not %s", after, show(got), show(want))
	}
	if s.Len() != len(m.cells) || s.Room() != m.most-len(m.cells) {
		t.Fatalf("after %s: Len = %d, Room = %d, with %d of %d bytes", after, s.Len(), s.Room(), len(m.cells), m.most)
	}
}

// put puts a good text into a store and into its model, and compares them; the error that both have.
func put(t *testing.T, s *Store, m *model, from, to int, x text) api.Errno {
	t.Helper()
	call := fmt.Sprintf("Put(%d, %d, %s)", from, to, show(x))
	want := m.put(from, to, x)
	if e := s.Put(from, to, x); e != want {
		t.Fatalf("%s: %d, not %d", call, e, want)
	}
	expect(t, call, s, m)
	return want
}

// expectCut compares what Cut answers with the model.
func expectCut(t *testing.T, s *Store, m *model, from, to int) {
	t.Helper()
	var want text
	wantError := api.ErrArg
	if 0 <= from && from <= to && to <= len(m.cells) {
		want, wantError = textOf(m.cells[from:to]), api.OK
	}
	if got, e := s.Cut(from, to); e != wantError || !strip.Same(got, want) {
		t.Fatalf("Cut(%d, %d) of %s: %s, %d, not %s, %d", from, to, show(textOf(m.cells)), show(got), e, show(want), wantError)
	}
}

// show is a text in a failure's message: quoted, as it may have broken bytes, and no longer than a line.
func show(t text) string {
	return fmt.Sprintf("%.40q %v", t.S, t.R[:min(8, len(t.R))])
}

// of is a text all of whose bytes have one label.
func of(s string, l api.Label) text {
	if s == "" {
		return text{}
	}
	return text{S: s, R: list{{L: l, N: len(s)}}}
}

// alternating is a text with n runs of one byte each.
func alternating(n int) text {
	t := text{S: strings.Repeat("xyz", n)[:n]}
	for i := range n {
		t.R = append(t.R, api.Run{L: api.Label(i % 2), N: 1})
	}
	return t
}

// store is a store for most bytes that contains a text, with its model.
func store(t *testing.T, most int, x text) (*Store, *model) {
	t.Helper()
	s, m := New(most), &model{most: most}
	if s == nil {
		t.Fatalf("New(%d) = nil", most)
	}
	put(t, s, m, 0, 0, x)
	return s, m
}

// bads are texts that are not good, in one way or another.
func bads() []text {
	return []text{
		{S: "a"},
		{S: "a", R: list{}},
		{R: list{{L: 1, N: 1}}},
		{S: "ab", R: list{{L: 1, N: 1}}},
		{S: "ab", R: list{{L: 1, N: 3}}},
		{S: "ab", R: list{{L: 1, N: 1}, {L: 1, N: 1}}},
		{S: "ab", R: list{{L: 1, N: 2}, {L: 2, N: 0}}},
		{S: "ab", R: list{{L: 1, N: 3}, {L: 2, N: -1}}},
		{S: "", R: list{{L: 1, N: 0}}},
		{S: "", R: list{{L: 1, N: 1}, {L: 2, N: -1}}},
		{S: "a", R: list{{L: 1, N: math.MaxInt}, {L: 2, N: math.MaxInt}, {L: 1, N: 3}}},
		{S: "a", R: list{{L: 1, N: math.MinInt}, {L: 2, N: math.MaxInt}, {L: 1, N: 2}}},
		{S: strings.Repeat("a", 4097), R: list{{L: 1, N: 4097}}},
		{S: strings.Repeat("a", 4097), R: list{{L: 1, N: 4096}}},
		alternating(4097),
	}
}

// outside are ranges that no text of n bytes has.
func outside(n int) [][2]int {
	return [][2]int{
		{-1, 0}, {-1, -1}, {0, -1}, {1, 0}, {n, n - 1}, {0, n + 1}, {n, n + 1}, {n + 1, n + 1}, {n + 1, n},
		{math.MinInt, 0}, {0, math.MinInt}, {math.MinInt, math.MinInt}, {math.MinInt, math.MaxInt},
		{math.MaxInt, math.MinInt}, {math.MaxInt, math.MaxInt}, {0, math.MaxInt}, {math.MaxInt, 0},
	}
}

// nones are stores that neither New nor Copy created.
func nones() map[string]*Store {
	return map[string]*Store{"nil": nil, "the zero value": {}}
}

// P5.1

func TestNew(t *testing.T) {
	for _, most := range []int{0, 1, 2, 5, 100, 4095, 4096} {
		s := New(most)
		if s == nil {
			t.Fatalf("New(%d) = nil", most)
		}
		expect(t, fmt.Sprintf("New(%d)", most), s, &model{most: most})
		if x, e := s.Cut(0, 0); e != api.OK || !strip.Same(x, text{}) {
			t.Errorf("Cut of an empty store: %s, %d", show(x), e)
		}
	}
	for _, most := range []int{-1, -2, 4097, 4098, 8192, math.MinInt, math.MaxInt} {
		if New(most) != nil {
			t.Errorf("New(%d) is a store", most)
		}
	}
}

func TestNewStoresAreApart(t *testing.T) {
	a, m := store(t, 5, of("abc", 1))
	b, _ := store(t, 5, of("xyzzy", 2))
	if a == b {
		t.Fatal("New answered one store twice")
	}
	expect(t, "a Put to another store", a, m)
}

func TestStoreForNothing(t *testing.T) {
	s, m := store(t, 0, text{})
	put(t, s, m, 0, 0, text{R: list{}})
	put(t, s, m, 0, 0, of("a", 1))
	put(t, s, m, 0, 1, text{})
	expectCut(t, s, m, 0, 0)
	expectCut(t, s, m, 0, 1)
	if c := s.Copy(); c == nil || c.Put(0, 0, text{}) != api.OK || c.Put(0, 0, of("a", 0)) != api.ErrFull {
		t.Error("a copy of it")
	}
}

// P5.2

// small are texts to put: without bytes, with labels alike and unlike, with broken bytes and newlines.
func small() []text {
	return []text{
		{},
		{R: list{}},
		of("p", 1),
		of("q", 2),
		{S: "#\n", R: list{{L: 1, N: 1}, {L: 2, N: 1}}},
		{S: "\xff\x00\xc3", R: list{{L: 1 << 63, N: 2}, {L: math.MaxUint64, N: 1}}},
	}
}

func TestPut(t *testing.T) {
	for _, first := range small() {
		for _, second := range small() {
			for from := -1; from <= 4; from++ {
				for to := -1; to <= 4; to++ {
					for most := 3; most <= 5; most++ {
						s, m := store(t, most, first)
						put(t, s, m, from, to, second)
						put(t, s, m, to, from, first)
						put(t, s, m, 1, 2, second)
					}
				}
			}
		}
	}
}

func TestPutEverywhere(t *testing.T) {
	whole := text{S: "abcdef", R: list{{L: 1, N: 2}, {L: 2, N: 1}, {L: 1, N: 3}}}
	for _, x := range small() {
		for from := range 7 {
			for to := range 7 {
				for at := range 7 {
					s, m := store(t, 9, whole)
					put(t, s, m, from, to, x)
					put(t, s, m, at, at, of("z", 2))
					put(t, s, m, min(at, to), max(at, to), x)
					put(t, s, m, 0, s.Len(), whole)
				}
			}
		}
	}
}

func TestPutOfWhatMayNotBe(t *testing.T) {
	for _, x := range []text{{}, of("abc", 1), {S: "abcde", R: list{{L: 1, N: 2}, {L: 2, N: 3}}}} {
		s, m := store(t, 5, x)
		for _, bad := range bads() {
			if e := s.Put(0, 0, bad); e != api.ErrArg {
				t.Errorf("Put of the bad text %s: %d", show(bad), e)
			}
			if e := s.Put(0, s.Len(), bad); e != api.ErrArg {
				t.Errorf("Put of the bad text %s: %d", show(bad), e)
			}
			expect(t, "Put of a bad text", s, m)
		}
		for _, c := range outside(len(x.S)) {
			for _, y := range []text{{}, of("z", 1), of("too many", 1)} { // the last doesn't fit either, but that is named later
				if e := s.Put(c[0], c[1], y); e != api.ErrArg {
					t.Errorf("Put(%d, %d) into %d bytes: %d", c[0], c[1], len(x.S), e)
				}
			}
			expect(t, "Put outside", s, m)
		}
		put(t, s, m, 0, s.Len(), of("vwxyz", 4))
	}
}

func TestPutToAFullStore(t *testing.T) {
	for _, most := range []int{1, 2, 5, 4095, 4096} {
		s, m := store(t, most, alternating(most))
		put(t, s, m, 0, 0, of("z", 1))                              // ErrFull
		put(t, s, m, most, most, of("z", 1))                        // ErrFull
		put(t, s, m, 0, 1, of("zz", 1))                             // ErrFull
		put(t, s, m, 0, most, of(strings.Repeat("z", most), 4))     // just as many
		put(t, s, m, 0, most-1, of(strings.Repeat("y", most), 4))   // ErrFull
		put(t, s, m, most-1, most, of("x", 1))                      // one for one
		put(t, s, m, 0, 1, text{})                                  // room for one
		put(t, s, m, most-1, most-1, of("ww", 1))                   // ErrFull, though one of them would fit
		put(t, s, m, most-1, most-1, of("w", 1))                    // full again
		put(t, s, m, 0, most, text{})                               // nothing is left
		put(t, s, m, 0, 0, of(strings.Repeat("u", most), 1<<63))    // full from nothing
		put(t, s, m, 0, most, of(strings.Repeat("t", 1+most/2), 0)) // fewer
		if most < 4096 {
			put(t, s, m, 0, s.Len(), of(strings.Repeat("s", most+1), 0)) // ErrFull
		}
	}
}

func TestNil(t *testing.T) {
	for name, s := range nones() {
		for _, x := range append(bads(), text{}, of("a", 1)) {
			for _, c := range append(outside(0), [2]int{0, 0}) {
				if e := s.Put(c[0], c[1], x); e != api.ErrNil {
					t.Errorf("%s: Put(%d, %d, %s) = %d", name, c[0], c[1], show(x), e)
				}
				if got, e := s.Cut(c[0], c[1]); e != api.ErrNil || got.S != "" || len(got.R) > 0 {
					t.Errorf("%s: Cut(%d, %d) = %s, %d", name, c[0], c[1], show(got), e)
				}
			}
		}
		if x := s.Text(); x.S != "" || len(x.R) > 0 || s.Len() != 0 || s.Room() != 0 {
			t.Errorf("%s: Text = %s, Len = %d, Room = %d", name, show(x), s.Len(), s.Room())
		}
		if s.Copy() != nil {
			t.Errorf("%s: there is a copy", name)
		}
	}
}

// P5.3

func TestCut(t *testing.T) {
	for _, x := range append(small(), text{S: "abcdef", R: list{{L: 1, N: 2}, {L: 2, N: 1}, {L: 1, N: 3}}}) {
		s, m := store(t, 9, x)
		put(t, s, m, len(x.S)/2, len(x.S)/2, of("zz", 2)) // so that it is of several pieces
		for from := -2; from <= s.Len()+2; from++ {
			for to := -2; to <= s.Len()+2; to++ {
				expectCut(t, s, m, from, to)
			}
		}
		for _, c := range outside(s.Len()) {
			expectCut(t, s, m, c[0], c[1])
		}
		expect(t, "Cut", s, m)
	}
}

func TestCutOfAFullStore(t *testing.T) {
	for _, x := range []text{alternating(4096), of(strings.Repeat("ab", 2048), 7)} {
		s, m := store(t, 4096, x)
		for _, c := range append(outside(4096), [][2]int{{0, 4096}, {0, 0}, {4096, 4096}, {1, 4095}, {2047, 2049}, {4095, 4096}}...) {
			expectCut(t, s, m, c[0], c[1])
		}
		expect(t, "Cut", s, m)
	}
}

func TestLabelsOfTheBytesAreOneList(t *testing.T) {
	s, m := store(t, 4096, text{})
	for i := range 300 { // put from both ends and in the middle, so that neighbours in the text are none in the buffer
		put(t, s, m, i*(i%3)/2, i*(i%3)/2, of(string(rune('a'+i%26)), 5))
	}
	if x := s.Text(); !slices.Equal(x.R, list{{L: 5, N: 300}}) {
		t.Errorf("the runs of one label: %v", x.R)
	}
	if x, e := s.Cut(17, 217); e != api.OK || !slices.Equal(x.R, list{{L: 5, N: 200}}) {
		t.Errorf("the runs of one label: %v, %d", x.R, e)
	}
}

// P5.4

func TestCopy(t *testing.T) {
	for _, x := range append(small(), alternating(7)) {
		for most := 7; most <= 9; most++ {
			s, m := store(t, most, x)
			c, mc := s.Copy(), m.copied()
			if c == nil || c == s {
				t.Fatalf("Copy of %s: no other store", show(x))
			}
			expect(t, "Copy", c, mc)
			expect(t, "Copy", s, m)
			put(t, c, mc, 0, c.Len(), of(strings.Repeat("z", most), 3))
			put(t, c, mc, 0, 0, of("z", 3)) // ErrFull: it has the same most
			expect(t, "a Put to the copy", s, m)
			put(t, s, m, 0, s.Len(), of(strings.Repeat("y", most), 4))
			expect(t, "a Put to the first", c, mc)
		}
	}
}

func TestCopiesGoOnApart(t *testing.T) {
	s, m := store(t, 4096, of("start", 1))
	for i := range 40 { // the buffers of stores that have one beginning grow side by side
		c, mc := s.Copy(), m.copied()
		d, md := c.Copy(), mc.copied()
		put(t, s, m, i, i+1, text{S: "ss", R: list{{L: 1, N: 1}, {L: 2, N: 1}}})
		put(t, c, mc, i, i+1, text{S: "cc", R: list{{L: 4, N: 1}, {L: 2, N: 1}}})
		put(t, d, md, i+1, i+1, text{S: "ddd", R: list{{L: 8, N: 3}}})
		put(t, s, m, 0, 0, of("S", 1))
		put(t, c, mc, 0, 0, of("C", 1))
		put(t, d, md, 0, 0, of("D", 1))
		expect(t, "Puts to others", s, m)
		expect(t, "Puts to others", c, mc)
		expect(t, "Puts to others", d, md)
		if i%3 == 1 {
			s, m = c, mc
		}
	}
}

func TestCopyOfAStoreThatIsEditedForLong(t *testing.T) {
	s, m := store(t, 6, of("abcdef", 1))
	c, mc := s.Copy(), m.copied()
	for i := range 50 {
		put(t, s, m, i%6, i%6+1, of(string(rune('A'+i%26)), api.Label(i%3)))
		expect(t, "Puts to the first", c, mc)
		if i%2 == 0 {
			put(t, c, mc, (i+3)%6, (i+3)%6+1, of(string(rune('0'+i%10)), 7))
			expect(t, "Puts to the copy", s, m)
		}
	}
}

// P5.5

// steps are many calls in an order without a rule: each is a range and a text, most of them such as may be.
func steps(count, most int) []func(length int) (from, to int, x text) {
	state := uint32(most + 1)
	next := func(n int) int {
		state = state*1664525 + 1013904223
		return int(state>>8) % n
	}
	var all []func(int) (int, int, text)
	for range count {
		a, b, size, labels := next(1<<20), next(1<<20), next(1+most/2), 1+next(3)
		var cells []cell
		for range size {
			cells = append(cells, cell{byte(next(256)), api.Label(next(labels))})
		}
		wild := next(12) == 0
		all = append(all, func(length int) (int, int, text) {
			if wild {
				return a%7 - 3, b % (2*most + 3), textOf(cells)
			}
			a, b := a%(length+1), b%(length+1)
			return min(a, b), max(a, b), textOf(cells)
		})
	}
	return all
}

func TestNeverMoreThanMost(t *testing.T) {
	for _, most := range []int{0, 1, 2, 3, 7, 64, 500, 4096} {
		s, m := New(most), &model{most: most}
		ends := map[api.Errno]int{}
		for i, step := range steps(400, most) {
			from, to, x := step(s.Len())
			ends[put(t, s, m, from, to, x)]++
			if s.Len() > most || s.Len()+s.Room() != most {
				t.Fatalf("Len = %d, Room = %d, most %d", s.Len(), s.Room(), most)
			}
			if i%10 == 0 {
				expectCut(t, s, m, s.Len()/3, s.Len()-s.Len()/4)
			}
		}
		if most > 7 && (ends[api.OK] < 100 || ends[api.ErrFull] < 20 || ends[api.ErrArg] < 10) {
			t.Errorf("the calls for %d bytes tell too little: %v", most, ends)
		}
	}
}

// P5.6

func TestBack(t *testing.T) {
	for _, most := range []int{5, 9, 60, 700} {
		s, m := New(most), &model{most: most}
		for _, step := range steps(300, most) {
			from, to, x := step(s.Len())
			before, old, e := m.copied(), text{}, api.OK
			if old, e = s.Cut(from, to); e != api.OK {
				continue
			}
			if s.Put(from, to, x) != api.OK {
				expect(t, "a refused Put", s, before)
				continue
			}
			if e := s.Put(from, from+len(x.S), old); e != api.OK {
				t.Fatalf("putting back %s: %d", show(old), e)
			}
			expect(t, "putting back", s, before)
			put(t, s, m, from, to, x)
		}
	}
}

func TestAllTheWayBack(t *testing.T) {
	type done struct {
		at, n int
		old   text
	}
	s, m := store(t, 30, alternating(9))
	start := s.Text()
	var all []done
	for _, step := range steps(200, 30) {
		from, to, x := step(s.Len())
		old, e := s.Cut(from, to)
		if e == api.OK && m.put(from, to, x) == api.OK {
			s.Put(from, to, x)
			all = append(all, done{from, len(x.S), old})
		}
	}
	expect(t, "all steps", s, m)
	for _, d := range slices.Backward(all) {
		if e := s.Put(d.at, d.at+d.n, d.old); e != api.OK {
			t.Fatalf("putting back: %d", e)
		}
	}
	if !strip.Same(s.Text(), start) || len(all) < 50 {
		t.Errorf("after %d steps and back: %s, not %s", len(all), show(s.Text()), show(start))
	}
}

// The chapter's example

func TestExample(t *testing.T) {
	s, m := store(t, 5, of("abc", 1))
	put(t, s, m, 1, 2, of("xy", 2))
	want := text{S: "axyc", R: list{{L: 1, N: 1}, {L: 2, N: 2}, {L: 1, N: 1}}}
	if !strip.Same(s.Text(), want) || s.Room() != 1 {
		t.Errorf("Text = %s, Room = %d", show(s.Text()), s.Room())
	}
	if e := s.Put(0, 0, of("zz", 1)); e != api.ErrFull {
		t.Errorf("Put(0, 0, zz) = %d", e)
	}
	if e := s.Put(3, 2, of("z", 1)); e != api.ErrArg {
		t.Errorf("Put(3, 2) = %d", e)
	}
	if x, e := s.Cut(1, 3); e != api.OK || !strip.Same(x, of("xy", 2)) {
		t.Errorf("Cut(1, 3) = %s, %d", show(x), e)
	}
	if New(4097) != nil {
		t.Error("New(4097)")
	}
}

// R6

// spoil writes to all of a text's runs, also where an append would write.
func spoil(x text) {
	reach := x.R[:cap(x.R)]
	for i := range reach {
		reach[i] = api.Run{L: 99, N: 99}
	}
}

func TestMemory(t *testing.T) {
	x := text{S: "abcdef", R: list{{L: 1, N: 2}, {L: 2, N: 3}, {L: 4, N: 1}}}
	kept := slices.Clone(x.R)
	s, m := store(t, 12, x)
	put(t, s, m, 1, 4, x)
	if !slices.Equal(x.R, kept) {
		t.Fatalf("the argument is now %s", show(x))
	}
	first, _ := s.Cut(0, s.Len())
	second := s.Text()
	c := s.Copy()
	spoil(x)
	expect(t, "writing to the argument", s, m)
	spoil(first)
	spoil(second)
	expect(t, "writing to the results", s, m)
	expect(t, "writing to the results", c, m)
	expectCut(t, s, m, 2, 7)
}

func TestResultsStay(t *testing.T) {
	s, m := store(t, 8, of("abcdefgh", 1))
	first := s.Text()
	part, _ := s.Cut(2, 5)
	for i := range 30 {
		put(t, s, m, i%8, i%8+1, of("z", 2))
	}
	if !strip.Same(first, of("abcdefgh", 1)) || !strip.Same(part, of("cde", 1)) {
		t.Errorf("results of earlier calls are now %s and %s", show(first), show(part))
	}
}

// What is kept is bounded, however long a store is used.

func TestKeepsNoMoreThanItNeeds(t *testing.T) {
	for _, most := range []int{1, 10, 4096} {
		s, m := store(t, most, text{})
		whole := of(strings.Repeat("a", most), 1)
		for range 50 {
			put(t, s, m, 0, s.Len(), whole)
			if len(s.buffer) > 2*most {
				t.Fatalf("%d bytes are kept for a text of %d", len(s.buffer), most)
			}
		}
	}
}

func TestFewPieces(t *testing.T) {
	s, m := store(t, 500, text{})
	for i := range 400 {
		put(t, s, m, i, i, of("k", 1))
		put(t, s, m, i/2, i/2, text{})
	}
	if len(s.pieces) != 1 {
		t.Errorf("a text that is put byte by byte is %d pieces", len(s.pieces))
	}
	put(t, s, m, 0, 200, text{})
	put(t, s, m, 0, 200, text{})
	if len(s.pieces) != 0 {
		t.Errorf("a text without bytes is %d pieces", len(s.pieces))
	}
}
