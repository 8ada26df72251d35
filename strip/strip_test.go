package strip

import (
	"fmt"
	"math"
	"slices"
	"strings"
	"testing"

	"bureau/api"
)

type (
	text = api.Text
	list = []api.Run
)

// The chapter's own words, written out byte by byte, in another way than the program's.

// cell is a byte with its label.
type cell struct {
	b byte
	l api.Label
}

// cellsOf is each byte of a good text with its label.
func cellsOf(t text) []cell {
	var all []cell
	for _, r := range t.R {
		for range r.N {
			all = append(all, cell{t.S[len(all)], r.L})
		}
	}
	return all
}

// textOf is the one good text of given cells.
func textOf(cells []cell) text {
	var t text
	for i, c := range cells {
		t.S += string([]byte{c.b})
		if i == 0 || cells[i-1].l != c.l {
			t.R = append(t.R, api.Run{L: c.l})
		}
		t.R[len(t.R)-1].N++
	}
	return t
}

// sees: is each category of a byte's label one of the level's?
func sees(level, l api.Label) bool {
	for k := range 64 {
		if uint64(l)>>k&1 > uint64(level)>>k&1 {
			return false
		}
	}
	return true
}

// viewOf is the view that a level has of given cells.
func viewOf(cells []cell, level api.Label) string {
	var view []byte
	for _, c := range cells {
		if sees(level, c.l) {
			view = append(view, c.b)
		} else {
			view = append(view, '#')
		}
	}
	return string(view)
}

// alike: do two lists of cells have the same labels, and the same bytes where the level sees them?
func alike(a, b []cell, level api.Label) bool {
	return slices.EqualFunc(a, b, func(x, y cell) bool {
		return x.l == y.l && (x.b == y.b || !sees(level, x.l))
	})
}

// levels are all labels of two categories, and some of others.
var levels = []api.Label{0, 1, 2, 3, 1 << 63, math.MaxUint64}

// texts are all good texts of up to n of the given bytes and labels.
func texts(n int, bytes string, labels ...api.Label) []text {
	rows := [][]cell{nil}
	for from := 0; n > 0; n-- {
		to := len(rows)
		for _, row := range rows[from:to] {
			for i := range len(bytes) {
				for _, l := range labels {
					rows = append(rows, append(slices.Clone(row), cell{bytes[i], l}))
				}
			}
		}
		from = to
	}
	var all []text
	for _, row := range rows {
		all = append(all, textOf(row))
	}
	return all
}

// goods are small good texts, with broken bytes, newlines and bytes like the mark of a hidden one.
func goods() []text {
	return append(texts(3, "a#", 0, 1, 2), edges()...)
}

// edges are good texts at the ends of what there may be.
func edges() []text {
	return []text{
		{},
		{S: "", R: list{}},
		{S: "\x00\xff\n#\xc3", R: list{{L: 0, N: 1}, {L: 3, N: 2}, {L: 1 << 63, N: 1}, {L: math.MaxUint64, N: 1}}},
		{S: "\u00e9\u00e9", R: list{{L: 1, N: 1}, {L: 2, N: 2}, {L: 1, N: 1}}}, // runs may end within a character
	}
}

// full are good texts of as many bytes as there may be.
func full() []text {
	return []text{
		{S: strings.Repeat("ab", 2048), R: list{{L: 1, N: 4000}, {L: 2, N: 96}}},
		{S: strings.Repeat("#", 4096), R: list{{L: 0, N: 4096}}},
		alternating(4096),
	}
}

// alternating is a text with n runs of one byte each.
func alternating(n int) text {
	t := text{S: strings.Repeat("x", n)}
	for i := range n {
		t.R = append(t.R, api.Run{L: api.Label(i % 2), N: 1})
	}
	return t
}

// bads are texts that are not good, in one way or another.
func bads() []text {
	return []text{
		{S: "a"},
		{S: "a", R: list{}},
		{R: list{{L: 1, N: 1}}},
		{S: "ab", R: list{{L: 1, N: 1}}},
		{S: "ab", R: list{{L: 1, N: 3}}},
		{S: "ab", R: list{{L: 1, N: 1}, {L: 2, N: 2}}},
		{S: "ab", R: list{{L: 1, N: 1}, {L: 1, N: 1}}},
		{S: "ab", R: list{{L: 1, N: 2}, {L: 2, N: 0}}},
		{S: "ab", R: list{{L: 1, N: 0}, {L: 2, N: 2}}},
		{S: "ab", R: list{{L: 1, N: 3}, {L: 2, N: -1}}},
		{S: "ab", R: list{{L: 1, N: -1}, {L: 2, N: 3}}},
		{S: "ab", R: list{{L: 1, N: 1}, {L: 2, N: 0}, {L: 1, N: 1}}},
		{S: "", R: list{{L: 1, N: 0}}},
		{S: "", R: list{{L: 1, N: -1}}},
		{S: "", R: list{{L: 1, N: 1}, {L: 2, N: -1}}},
		{S: "a", R: list{{L: 1, N: math.MaxInt}, {L: 2, N: math.MaxInt}, {L: 1, N: 3}}},
		{S: "a", R: list{{L: 1, N: math.MinInt}, {L: 2, N: math.MaxInt}, {L: 1, N: 2}}},
		{S: strings.Repeat("a", 4096), R: list{{L: 1, N: 4097}}},
		{S: strings.Repeat("a", 4097), R: list{{L: 1, N: 4096}}},
		{S: strings.Repeat("a", 4097), R: list{{L: 1, N: 4097}}},
		{S: strings.Repeat("a", 4097), R: list{{L: 1, N: 5000}}},
		alternating(4097),
	}
}

// expect compares a result with the good text of cells, or with an error.
func expect(t *testing.T, call string, got text, e api.Errno, want []cell, wantError api.Errno) {
	t.Helper()
	good := textOf(want)
	if e != wantError {
		t.Errorf("%s: error %d, not %d", call, e, wantError)
	} else if e != api.OK && (got.S != "" || len(got.R) > 0) {
		t.Errorf("%s: %s beside the error %d", call, show(got), e)
	} else if e == api.OK && (got.S != good.S || !slices.Equal(got.R, good.R)) {
		t.Errorf("%s: %s, not %s", call, show(got), show(good))
	}
}

// show is a text in a failure's message: quoted, as it may have broken bytes, and no longer than a line.
func show(t text) string {
	return fmt.Sprintf("%.40q %v", t.S, t.R[:min(8, len(t.R))])
}

// P4.1

func TestGood(t *testing.T) {
	for _, x := range append(goods(), full()...) {
		if !Good(x) {
			t.Errorf("not Good(%s)", show(x))
		}
	}
	for _, x := range bads() {
		if Good(x) {
			t.Errorf("Good(%s)", show(x))
		}
	}
}

func TestGoodOfSmallRuns(t *testing.T) {
	for a := -1; a <= 3; a++ {
		for b := -1; b <= 3; b++ {
			for l := range api.Label(2) {
				for n := range 7 {
					x := text{S: strings.Repeat("a", n), R: list{{L: 1, N: a}, {L: l, N: b}}}
					if want := a > 0 && b > 0 && l != 1 && a+b == n; Good(x) != want {
						t.Errorf("Good(%s) = %v", show(x), !want)
					}
				}
			}
		}
	}
}

func TestMake(t *testing.T) {
	for _, s := range []string{"", "a", "ab\n", "#", "\xff\x00", "\u00e9", strings.Repeat("a", 4095), strings.Repeat("\u00e9", 2048)} {
		for _, l := range levels {
			var want []cell
			for i := range len(s) {
				want = append(want, cell{s[i], l})
			}
			got, e := Make(s, l)
			expect(t, "Make", got, e, want, api.OK)
		}
	}
	if got, e := Make("", 5); e != api.OK || got.S != "" || len(got.R) != 0 {
		t.Errorf("Make of no bytes: %s, %d", show(got), e)
	}
	for _, n := range []int{4097, 4098, 8192, 1 << 20} {
		got, e := Make(strings.Repeat("a", n), 1)
		expect(t, "Make", got, e, nil, api.ErrBig)
	}
}

func TestLabel(t *testing.T) {
	for _, x := range append(goods(), full()...) {
		var want api.Label
		for _, c := range cellsOf(x) {
			want |= c.l
		}
		if got := Label(x); got != want {
			t.Errorf("Label(%s) = %d, not %d", show(x), got, want)
		}
	}
	for _, x := range bads() {
		if got := Label(x); got != 0 {
			t.Errorf("Label(%s) = %d", show(x), got)
		}
	}
}

// P4.2

func TestCut(t *testing.T) {
	for _, x := range goods() {
		cells := cellsOf(x)
		for from := -2; from <= len(cells)+2; from++ {
			for to := -2; to <= len(cells)+2; to++ {
				got, e := Cut(x, from, to)
				if from < 0 || from > to || to > len(cells) {
					expect(t, "Cut", got, e, nil, api.ErrArg)
				} else {
					expect(t, "Cut", got, e, cells[from:to], api.OK)
				}
			}
		}
	}
}

func TestCutEdges(t *testing.T) {
	for _, x := range full() {
		cells := cellsOf(x)
		for _, c := range [][2]int{{0, 4096}, {0, 0}, {4096, 4096}, {3999, 4001}, {1, 4095}, {4000, 4096}} {
			got, e := Cut(x, c[0], c[1])
			expect(t, "Cut", got, e, cells[c[0]:c[1]], api.OK)
		}
	}
	ends := []int{math.MinInt, -1, 0, 1, 4096, 4097, math.MaxInt}
	for _, x := range append(full(), text{}) {
		for _, from := range ends {
			for _, to := range ends {
				if 0 <= from && from <= to && to <= len(x.S) {
					continue
				}
				got, e := Cut(x, from, to)
				expect(t, "Cut", got, e, nil, api.ErrArg)
			}
		}
	}
	for _, x := range bads() {
		for _, from := range []int{0, 1} {
			got, e := Cut(x, from, from)
			expect(t, "Cut of a bad text", got, e, nil, api.ErrArg)
		}
	}
}

func TestCat(t *testing.T) {
	for _, a := range goods() {
		for _, b := range goods() {
			got, e := Cat(a, b)
			expect(t, "Cat", got, e, slices.Concat(cellsOf(a), cellsOf(b)), api.OK)
		}
	}
}

func TestCatEdges(t *testing.T) {
	most := full()[0]
	one := text{S: "z", R: list{{L: 2, N: 1}}}
	most1, _ := Cut(most, 0, 4095)
	got, e := Cat(most1, one)
	expect(t, "Cat to the limit", got, e, append(cellsOf(most)[:4095:4095], cell{'z', 2}), api.OK)
	for _, x := range full() {
		got, e = Cat(x, text{})
		expect(t, "Cat with nothing", got, e, cellsOf(x), api.OK)
		got, e = Cat(text{}, x)
		expect(t, "Cat of nothing", got, e, cellsOf(x), api.OK)
		got, e = Cat(x, one)
		expect(t, "Cat beyond the limit", got, e, nil, api.ErrBig)
		got, e = Cat(one, x)
		expect(t, "Cat beyond the limit", got, e, nil, api.ErrBig)
		got, e = Cat(x, x)
		expect(t, "Cat beyond the limit", got, e, nil, api.ErrBig)
	}
	for _, bad := range bads() {
		for _, x := range append(edges(), most, one, bad) { // with most it is too big as well, but that is named later
			got, e = Cat(bad, x)
			expect(t, "Cat of a bad text", got, e, nil, api.ErrArg)
			got, e = Cat(x, bad)
			expect(t, "Cat with a bad text", got, e, nil, api.ErrArg)
		}
	}
}

// P4.3

func TestSplice(t *testing.T) {
	others := append(texts(1, "z", 0, 2), edges()...)
	for _, x := range goods() {
		cells := cellsOf(x)
		for from := -1; from <= len(cells)+1; from++ {
			for to := -1; to <= len(cells)+1; to++ {
				for _, y := range others {
					got, e := Splice(x, from, to, y)
					if from < 0 || from > to || to > len(cells) {
						expect(t, "Splice", got, e, nil, api.ErrArg)
					} else {
						expect(t, "Splice", got, e, slices.Concat(cells[:from], cellsOf(y), cells[to:]), api.OK)
					}
				}
			}
		}
	}
}

func TestSpliceEdges(t *testing.T) {
	most := full()[0]
	cells := cellsOf(most)
	zs := func(n int) text { return text{S: strings.Repeat("z", n), R: list{{L: 4, N: n}}} }
	for _, c := range []struct {
		from, to, n int
		e           api.Errno
	}{
		{0, 4096, 4096, api.OK},
		{10, 11, 1, api.OK},
		{4000, 4001, 1, api.OK},
		{3999, 4001, 2, api.OK},
		{10, 11, 2, api.ErrBig},
		{0, 0, 1, api.ErrBig},
		{4096, 4096, 1, api.ErrBig},
		{0, 4095, 4096, api.ErrBig},
		{0, 4095, 1, api.OK},
		{4096, 4097, 4096, api.ErrArg}, // and too big, but that is named later
		{4097, 4097, 1, api.ErrArg},
		{-1, 0, 1, api.ErrArg},
		{2, 1, 4096, api.ErrArg},
		{0, 4097, 1, api.ErrArg},
		{math.MinInt, math.MaxInt, 1, api.ErrArg},
		{math.MaxInt, math.MinInt, 1, api.ErrArg},
		{math.MinInt, math.MinInt, 1, api.ErrArg},
		{math.MaxInt, math.MaxInt, 1, api.ErrArg},
	} {
		got, e := Splice(most, c.from, c.to, zs(c.n))
		var want []cell
		if c.e == api.OK {
			want = slices.Concat(cells[:c.from], cellsOf(zs(c.n)), cells[c.to:])
		}
		expect(t, "Splice", got, e, want, c.e)
	}
	for _, bad := range bads() {
		got, e := Splice(bad, 0, 0, text{})
		expect(t, "Splice of a bad text", got, e, nil, api.ErrArg)
		got, e = Splice(bad, 0, 0, most)
		expect(t, "Splice of a bad text", got, e, nil, api.ErrArg)
		for _, to := range []int{0, 4096} {
			got, e = Splice(most, 0, to, bad)
			expect(t, "Splice with a bad text", got, e, nil, api.ErrArg)
		}
	}
}

func TestRaise(t *testing.T) {
	for _, x := range append(goods(), full()...) {
		for _, by := range levels {
			want := cellsOf(x)
			for i := range want {
				want[i].l |= by
			}
			got, e := Raise(x, by)
			expect(t, "Raise", got, e, want, api.OK)
		}
	}
	for _, bad := range bads() {
		for _, by := range []api.Label{0, 1} {
			got, e := Raise(bad, by)
			expect(t, "Raise of a bad text", got, e, nil, api.ErrArg)
		}
	}
}

// P4.4

func TestView(t *testing.T) {
	for _, x := range append(goods(), full()...) {
		for _, level := range levels {
			if got, e := View(x, level); e != api.OK || got != viewOf(cellsOf(x), level) {
				t.Errorf("View(%s, %d) = %.40q, %d", show(x), level, got, e)
			}
		}
	}
	for _, bad := range bads() {
		for _, level := range levels {
			if got, e := View(bad, level); e != api.ErrArg || got != "" {
				t.Errorf("View(%s, %d) = %.40q, %d", show(bad), level, got, e)
			}
		}
	}
}

func TestSame(t *testing.T) {
	all := slices.Concat(goods(), full(), bads())
	for i, a := range all {
		for k, b := range all {
			want := a.S == b.S && len(a.R) == len(b.R)
			for n := 0; want && n < len(a.R); n++ {
				want = a.R[n].L == b.R[n].L && a.R[n].N == b.R[n].N
			}
			if want != (Same(a, b)) || i == k && !want {
				t.Errorf("Same(%s, %s) = %v", show(a), show(b), !want)
			}
		}
	}
}

func TestSameEdges(t *testing.T) {
	ab := text{S: "ab", R: list{{L: 1, N: 2}}}
	for _, c := range []struct {
		a, b text
		want bool
	}{
		{ab, text{S: "ab", R: list{{L: 1, N: 2}}}, true},
		{text{}, text{R: list{}}, true},
		{ab, text{S: "ac", R: list{{L: 1, N: 2}}}, false},
		{ab, text{S: "abc", R: list{{L: 1, N: 2}}}, false},
		{ab, text{S: "ab", R: list{{L: 2, N: 2}}}, false},
		{ab, text{S: "ab", R: list{{L: 1, N: 3}}}, false},
		{ab, text{S: "ab", R: list{{L: 1, N: 2}, {L: 2, N: 0}}}, false},
		{ab, text{S: "ab", R: list{{L: 1, N: 1}, {L: 1, N: 1}}}, false}, // other runs, though each byte has the same label
		{ab, text{S: "ab"}, false},
		{text{S: "ab"}, text{S: "ab", R: list{}}, true},
		{text{S: "x", R: list{{L: 1, N: -7}}}, text{S: "x", R: list{{L: 1, N: -7}}}, true},
	} {
		if Same(c.a, c.b) != c.want || Same(c.b, c.a) != c.want {
			t.Errorf("Same(%s, %s) = %v", show(c.a), show(c.b), !c.want)
		}
	}
}

func TestLow(t *testing.T) {
	all := goods()
	for _, a := range all {
		for _, b := range all {
			for _, level := range levels {
				if want := alike(cellsOf(a), cellsOf(b), level); Low(a, b, level) != want {
					t.Errorf("Low(%s, %s, %d) = %v", show(a), show(b), level, !want)
				}
			}
		}
	}
}

func TestLowEdges(t *testing.T) {
	for _, c := range []struct {
		a, b  text
		level api.Label
		want  bool
	}{
		{text{S: "abc", R: list{{L: 1, N: 2}, {L: 2, N: 1}}}, text{S: "abz", R: list{{L: 1, N: 2}, {L: 2, N: 1}}}, 1, true},
		{text{S: "abc", R: list{{L: 1, N: 2}, {L: 2, N: 1}}}, text{S: "abz", R: list{{L: 1, N: 2}, {L: 2, N: 1}}}, 2, false},
		{text{}, text{R: list{}}, 0, true},
		{text{S: "a", R: list{{L: 1, N: 1}}}, text{S: "b", R: list{{L: 1, N: 1}}}, 0, true},
		{text{S: "#", R: list{{L: 0, N: 1}}}, text{S: "b", R: list{{L: 1, N: 1}}}, 0, false}, // one view, but other runs
		{text{S: "a", R: list{{L: 1, N: 1}}}, text{S: "a", R: list{{L: 2, N: 1}}}, 0, false}, // though both are hidden
		{text{S: "a", R: list{{L: 1, N: 1}}}, text{S: "aa", R: list{{L: 1, N: 2}}}, 0, false},
		{text{S: "a", R: list{{L: 1, N: 1}}}, text{}, 0, false},
	} {
		if Low(c.a, c.b, c.level) != c.want || Low(c.b, c.a, c.level) != c.want {
			t.Errorf("Low(%s, %s, %d) = %v", show(c.a), show(c.b), c.level, !c.want)
		}
	}
	for _, bad := range bads() {
		for _, level := range levels {
			for _, x := range append(edges(), bad) {
				if Low(bad, x, level) || Low(x, bad, level) {
					t.Errorf("Low of the bad text %s and %s", show(bad), show(x))
				}
			}
		}
	}
}

// P4.5

// pair is two texts that are alike for the level 1.
type pair struct{ a, b text }

// pairs are all of them among small texts.
func pairs(n int) []pair {
	var all []pair
	some := texts(n, "a#", 0, 1, 2)
	for _, a := range some {
		for _, b := range some {
			if Low(a, b, 1) {
				all = append(all, pair{a, b})
			}
		}
	}
	return all
}

// expectAlike compares what one call answers to two texts that are alike for the level 1.
func expectAlike(t *testing.T, call string, a text, ea api.Errno, b text, eb api.Errno) {
	t.Helper()
	va, _ := View(a, 1)
	vb, _ := View(b, 1)
	if ea != eb || ea == api.OK && !Low(a, b, 1) || !slices.Equal(a.R, b.R) || va != vb {
		t.Errorf("%s: %s (%d) and %s (%d)", call, show(a), ea, show(b), eb)
	}
}

func TestHiddenBytesStayHidden(t *testing.T) {
	for _, p := range pairs(3) {
		for from := -1; from <= len(p.a.S)+1; from++ {
			for to := -1; to <= len(p.a.S)+1; to++ {
				a, ea := Cut(p.a, from, to)
				b, eb := Cut(p.b, from, to)
				expectAlike(t, "Cut", a, ea, b, eb)
			}
		}
		for _, by := range levels {
			a, ea := Raise(p.a, by)
			b, eb := Raise(p.b, by)
			expectAlike(t, "Raise", a, ea, b, eb)
		}
	}
}

func TestHiddenBytesStayHiddenTogether(t *testing.T) {
	for _, p := range pairs(2) {
		for _, q := range pairs(2) {
			a, ea := Cat(p.a, q.a)
			b, eb := Cat(p.b, q.b)
			expectAlike(t, "Cat", a, ea, b, eb)
			for from := -1; from <= len(p.a.S)+1; from++ {
				for to := -1; to <= len(p.a.S)+1; to++ {
					a, ea := Splice(p.a, from, to, q.a)
					b, eb := Splice(p.b, from, to, q.b)
					expectAlike(t, "Splice", a, ea, b, eb)
				}
			}
		}
	}
}

func TestHiddenBytesStayHiddenAtTheLimit(t *testing.T) {
	secret := list{{L: 1, N: 4000}, {L: 2, N: 96}}
	p := pair{
		text{S: strings.Repeat("v", 4000) + strings.Repeat("a", 96), R: secret},
		text{S: strings.Repeat("v", 4000) + strings.Repeat("#", 96), R: secret},
	}
	for _, q := range pairs(1) {
		a, ea := Cat(p.a, q.a)
		b, eb := Cat(p.b, q.b)
		expectAlike(t, "Cat", a, ea, b, eb)
		for _, c := range [][2]int{{0, 0}, {4095, 4096}, {4096, 4096}, {3999, 4001}, {4000, 4000}, {4096, 4097}} {
			a, ea := Splice(p.a, c[0], c[1], q.a)
			b, eb := Splice(p.b, c[0], c[1], q.b)
			expectAlike(t, "Splice", a, ea, b, eb)
		}
	}
}

// P4.6

func TestHigherLevelsSeeMore(t *testing.T) {
	for _, x := range append(goods(), full()...) {
		for _, low := range levels {
			for _, high := range levels {
				if low&^high != 0 {
					continue
				}
				atLow, e1 := View(x, low)
				atHigh, e2 := View(x, high)
				if e1 != api.OK || e2 != api.OK || len(atLow) != len(x.S) || len(atHigh) != len(x.S) {
					t.Fatalf("the views of %s", show(x))
				}
				for i := range len(x.S) {
					if atLow[i] != '#' && atHigh[i] != atLow[i] {
						t.Fatalf("%s: %d sees byte %d, %d does not", show(x), low, i, high)
					}
				}
			}
		}
	}
}

func TestAlikeForLowerLevelsToo(t *testing.T) {
	some := goods()
	for _, a := range some {
		for _, b := range some {
			for _, high := range levels {
				if !Low(a, b, high) {
					continue
				}
				for _, low := range levels {
					if low&^high == 0 && !Low(a, b, low) {
						t.Errorf("%s and %s are alike for %d, not for %d", show(a), show(b), high, low)
					}
				}
			}
		}
	}
}

// P4.7

func TestPartsTogether(t *testing.T) {
	for _, x := range append(goods(), full()...) {
		for at := 0; at <= len(x.S); at += 1 + len(x.S)/37 {
			a, e1 := Cut(x, 0, at)
			b, e2 := Cut(x, at, len(x.S))
			whole, e3 := Cat(a, b)
			if e1 != api.OK || e2 != api.OK || e3 != api.OK || !Same(whole, x) {
				t.Errorf("%s cut at %d: %d, %d, %d: %s", show(x), at, e1, e2, e3, show(whole))
			}
		}
	}
}

// The chapter's example

func TestExample(t *testing.T) {
	x := text{S: "abc", R: list{{L: 1, N: 2}, {L: 2, N: 1}}}
	for level, want := range map[api.Label]string{0: "###", 1: "ab#", 2: "##c", 3: "abc", 4: "###", 7: "abc"} {
		if got, e := View(x, level); got != want || e != api.OK {
			t.Errorf("View(%d) = %q, %d", level, got, e)
		}
	}
	if Label(x) != 3 {
		t.Errorf("Label = %d", Label(x))
	}
	got, e := Cut(x, 1, 3)
	expect(t, "Cut", got, e, []cell{{'b', 1}, {'c', 2}}, api.OK)
	got, e = Splice(x, 1, 1, text{S: "x", R: list{{L: 2, N: 1}}})
	expect(t, "Splice", got, e, []cell{{'a', 1}, {'x', 2}, {'b', 1}, {'c', 2}}, api.OK)
}

// R6

func TestMemory(t *testing.T) {
	x := text{S: "abcdef", R: list{{L: 1, N: 2}, {L: 2, N: 3}, {L: 4, N: 1}}}
	y := text{S: "yz", R: list{{L: 8, N: 2}}}
	keptX, keptY := slices.Clone(x.R), slices.Clone(y.R)
	calls := []func() (text, api.Errno){
		func() (text, api.Errno) { return Make("abc", 1) },
		func() (text, api.Errno) { return Cut(x, 0, 6) },
		func() (text, api.Errno) { return Cut(x, 0, 2) },
		func() (text, api.Errno) { return Cat(x, y) },
		func() (text, api.Errno) { return Cat(x, text{}) },
		func() (text, api.Errno) { return Cat(text{}, x) },
		func() (text, api.Errno) { return Splice(x, 1, 3, y) },
		func() (text, api.Errno) { return Splice(x, 0, 6, y) },
		func() (text, api.Errno) { return Splice(x, 2, 2, text{}) },
		func() (text, api.Errno) { return Raise(x, 16) },
		func() (text, api.Errno) { return Raise(x, 0) },
	}
	for i, call := range calls {
		first, e := call()
		if e != api.OK {
			t.Fatalf("call %d: %d", i, e)
		}
		want := text{S: first.S, R: slices.Clone(first.R)}
		reach := first.R[:cap(first.R)] // an append to the result may write there too
		for k := range reach {
			reach[k] = api.Run{L: 99, N: 99}
		}
		if again, _ := call(); !Same(again, want) {
			t.Errorf("call %d: its result shares memory: %s, then %s", i, show(want), show(again))
		}
		if !slices.Equal(x.R, keptX) || !slices.Equal(y.R, keptY) {
			t.Fatalf("call %d: the arguments are now %s, %s", i, show(x), show(y))
		}
	}
}

func TestAskingChangesNothing(t *testing.T) {
	x := text{S: "abc", R: list{{L: 1, N: 2}, {L: 2, N: 1}}}
	View(x, 0)
	Label(x)
	Good(x)
	Same(x, x)
	Low(x, x, 1)
	if x.S != "abc" || !slices.Equal(x.R, list{{L: 1, N: 2}, {L: 2, N: 1}}) {
		t.Errorf("the text is now %s", show(x))
	}
}
