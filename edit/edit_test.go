package edit

import (
	"fmt"
	"math"
	"slices"
	"strings"
	"testing"

	"bureau/api"
	"bureau/strip"
)

type (
	text = api.Text
	list = []api.Run
)

// The chapter's own words, written out byte by byte, in another way than the program's.

// cell is a byte with its label.
type cell struct {
	b byte
	l api.Label
}

// cellsOf is each byte of a good text with its label.
func cellsOf(t text) []cell {
	var all []cell
	for _, r := range t.R {
		for range r.N {
			all = append(all, cell{t.S[len(all)], r.L})
		}
	}
	return all
}

// textOf is the one good text of given cells.
func textOf(cells []cell) text {
	var s strings.Builder
	var runs list
	for i, c := range cells {
		s.WriteByte(c.b)
		if i == 0 || cells[i-1].l != c.l {
			runs = append(runs, api.Run{L: c.l})
		}
		runs[len(runs)-1].N++
	}
	return text{S: s.String(), R: runs}
}

// replaced is what the cells of a good text are after a good edit, or why they may not be: what stands in the way first.
func replaced(cells []cell, at int, old, new []cell) ([]cell, api.Errno) {
	if at > len(cells) || len(cells)-at < len(old) {
		return nil, api.ErrArg
	}
	for i, c := range old {
		if cells[at+i] != c {
			return nil, api.ErrStale
		}
	}
	if len(cells)-len(old)+len(new) > 4096 {
		return nil, api.ErrBig
	}
	return slices.Concat(cells[:at], new, cells[at+len(old):]), api.OK
}

// fits: is a place one that a good edit may have?
func fits(at int) bool { return 0 <= at && at <= 4096 }

// texts are all good texts of up to n of the given bytes and labels.
func texts(n int, bytes string, labels ...api.Label) []text {
	rows := [][]cell{nil}
	for from := 0; n > 0; n-- {
		to := len(rows)
		for _, row := range rows[from:to] {
			for i := range len(bytes) {
				for _, l := range labels {
					rows = append(rows, append(slices.Clone(row), cell{bytes[i], l}))
				}
			}
		}
		from = to
	}
	var all []text
	for _, row := range rows {
		all = append(all, textOf(row))
	}
	return all
}

// of is a text all of whose bytes have one label.
func of(s string, l api.Label) text {
	if s == "" {
		return text{}
	}
	return text{S: s, R: list{{L: l, N: len(s)}}}
}

// many is a text of n bytes of one label.
func many(n int) text { return of(strings.Repeat("m", n), 1) }

// edges are good texts at the ends of what there may be.
func edges() []text {
	return []text{
		{},
		{R: list{}},
		{S: "\x00\xff\n#\xc3", R: list{{L: 0, N: 1}, {L: 3, N: 2}, {L: 1 << 63, N: 1}, {L: math.MaxUint64, N: 1}}},
		{S: "\u00e9\u00e9", R: list{{L: 1, N: 1}, {L: 2, N: 2}, {L: 1, N: 1}}}, // runs may end within a character
		many(4095),
		many(4096),
		{S: strings.Repeat("ab", 2048), R: list{{L: 1, N: 4000}, {L: 2, N: 96}}},
	}
}

// bads are texts that are not good, in one way or another.
func bads() []text {
	return []text{
		{S: "a"},
		{R: list{{L: 1, N: 1}}},
		{R: list{{L: 1, N: 0}}},
		{S: "ab", R: list{{L: 1, N: 1}}},
		{S: "ab", R: list{{L: 1, N: 3}}},
		{S: "ab", R: list{{L: 1, N: 1}, {L: 1, N: 1}}},
		{S: "ab", R: list{{L: 1, N: 2}, {L: 2, N: 0}}},
		{S: "ab", R: list{{L: 1, N: 3}, {L: 2, N: -1}}},
		{S: "a", R: list{{L: 1, N: math.MaxInt}, {L: 2, N: math.MaxInt}, {L: 1, N: 3}}},
		{S: "a", R: list{{L: 1, N: math.MinInt}, {L: 2, N: math.MaxInt}, {L: 1, N: 2}}},
		many(4097),
		{S: strings.Repeat("a", 4097), R: list{{L: 1, N: 4096}}},
	}
}

// wild are places that no good edit may have.
var wild = []int{math.MinInt, math.MinInt + 1, -4097, -4096, -1, 4097, 8192, math.MaxInt - 1, math.MaxInt}

// badEdits are edits that are not good: one of their texts isn't, or their place.
func badEdits() []api.Edit {
	var all []api.Edit
	for _, bad := range bads() {
		for _, at := range []int{0, 1, 4096} {
			for _, x := range []text{{}, of("a", 1), bad} {
				all = append(all, api.Edit{At: at, Old: bad, New: x}, api.Edit{At: at, Old: x, New: bad})
			}
		}
	}
	for _, at := range wild {
		for _, x := range []text{{}, of("a", 1), many(4096)} {
			all = append(all, api.Edit{At: at, Old: x, New: of("b", 2)}, api.Edit{At: at, Old: of("a", 1), New: x}, api.Edit{At: at})
		}
	}
	return all
}

// show is a text in a failure's message: quoted, as it may have broken bytes, and no longer than a line.
func show(t text) string {
	return fmt.Sprintf("%.40q %v", t.S, t.R[:min(8, len(t.R))])
}

// showEdit is an edit in a failure's message.
func showEdit(e api.Edit) string {
	return fmt.Sprintf("{%d: %s -> %s}", e.At, show(e.Old), show(e.New))
}

// sameEdit: do two edits have the same place and the same texts?
func sameEdit(a, b api.Edit) bool {
	return a.At == b.At && strip.Same(a.Old, b.Old) && strip.Same(a.New, b.New)
}

// expectApply compares what Check and Apply answer with a text, or with an error.
func expectApply(t *testing.T, x text, e api.Edit, want text, wantError api.Errno) {
	t.Helper()
	if err := Check(x, e); err != wantError {
		t.Errorf("Check(%s, %s) = %d, not %d", show(x), showEdit(e), err, wantError)
	}
	if got, err := Apply(x, e); err != wantError || !strip.Same(got, want) {
		t.Errorf("Apply(%s, %s) = %s, %d, not %s, %d", show(x), showEdit(e), show(got), err, show(want), wantError)
	}
}

// expectOf compares what Of answers with an edit, or with an error.
func expectOf(t *testing.T, x text, from, to int, y text, want api.Edit, wantError api.Errno) {
	t.Helper()
	if got, err := Of(x, from, to, y); err != wantError || !sameEdit(got, want) {
		t.Errorf("Of(%s, %d, %d, %s) = %s, %d, not %s, %d", show(x), from, to, show(y), showEdit(got), err, showEdit(want), wantError)
	}
}

// expectJoin compares what Join answers with an edit; nil: with none.
func expectJoin(t *testing.T, a, b api.Edit, want *api.Edit) {
	t.Helper()
	got, is := Join(a, b)
	if want == nil {
		if is || !sameEdit(got, api.Edit{}) {
			t.Errorf("Join(%s, %s) = %s, %t", showEdit(a), showEdit(b), showEdit(got), is)
		}
	} else if !is || !sameEdit(got, *want) {
		t.Errorf("Join(%s, %s) = %s, %t, not %s", showEdit(a), showEdit(b), showEdit(got), is, showEdit(*want))
	}
}

// P7.1

func TestApply(t *testing.T) {
	ends := map[api.Errno]int{}
	olds := append(texts(1, "a#", 0, 1), texts(2, "a", 1)...)
	news := []text{{}, of("z", 1), {S: "a#", R: list{{L: 0, N: 1}, {L: 2, N: 1}}}}
	for _, x := range texts(3, "a#", 0, 1) {
		for _, old := range olds {
			for _, new := range news {
				for at := range 6 {
					cells, err := replaced(cellsOf(x), at, cellsOf(old), cellsOf(new))
					expectApply(t, x, api.Edit{At: at, Old: old, New: new}, textOf(cells), err)
					ends[err]++
				}
			}
		}
	}
	if ends[api.OK] == 0 || ends[api.ErrArg] == 0 || ends[api.ErrStale] == 0 {
		t.Errorf("the calls tell too little: %v", ends)
	}
}

func TestApplyAtTheEdges(t *testing.T) {
	for _, x := range edges() {
		n := len(x.S)
		for _, new := range edges() {
			for _, c := range [][2]int{{0, 0}, {0, n}, {n, n}, {n / 2, n}, {n / 3, n / 2}, {0, min(n, 1)}, {max(n-1, 0), n}} {
				old := textOf(cellsOf(x)[c[0]:c[1]])
				cells, err := replaced(cellsOf(x), c[0], cellsOf(old), cellsOf(new))
				expectApply(t, x, api.Edit{At: c[0], Old: old, New: new}, textOf(cells), err)
			}
		}
	}
}

func TestApplyOfWhatMayNotBe(t *testing.T) {
	for _, e := range badEdits() {
		for _, x := range append(bads(), text{}, of("a", 1), of("aaa", 1), many(4096)) {
			expectApply(t, x, e, text{}, api.ErrArg)
		}
	}
	for _, bad := range bads() { // though the bytes that the edit asks for may seem to stand there
		for _, old := range []text{{}, of("a", 1), of("ab", 1), bad} {
			for _, at := range []int{0, 1, 2, 4096} {
				expectApply(t, bad, api.Edit{At: at, Old: old, New: of("z", 1)}, text{}, api.ErrArg)
			}
		}
	}
}

func TestApplyNamesTheFirstError(t *testing.T) {
	full := many(4096)
	for _, c := range []struct {
		x    text
		e    api.Edit
		want api.Errno
	}{
		{full, api.Edit{At: 4096, New: of("z", 1)}, api.ErrBig},
		{full, api.Edit{At: 0, New: full}, api.ErrBig},
		{full, api.Edit{At: 0, Old: of("m", 1), New: of("zz", 1)}, api.ErrBig},
		{full, api.Edit{At: 0, Old: of("z", 1), New: of("zz", 1)}, api.ErrStale}, // and too big
		{full, api.Edit{At: 0, Old: of("m", 2), New: full}, api.ErrStale},        // and too big
		{full, api.Edit{At: 4096, Old: of("m", 1), New: full}, api.ErrArg},       // and too big
		{full, api.Edit{At: 4095, Old: of("mm", 1), New: full}, api.ErrArg},      // and too big
		{full, api.Edit{At: 4095, Old: of("zz", 1)}, api.ErrArg},                 // and what stands there isn't Old
		{full, api.Edit{At: 1, Old: full}, api.ErrArg},
		{of("ab", 1), api.Edit{At: 3}, api.ErrArg},
		{of("ab", 1), api.Edit{At: 4096}, api.ErrArg},
		{of("ab", 1), api.Edit{At: 4096, Old: full}, api.ErrArg},
		{text{}, api.Edit{At: 1}, api.ErrArg},
		{text{}, api.Edit{At: 0, Old: of("a", 1)}, api.ErrArg},
		{of("ab", 1), api.Edit{At: 0, Old: of("ac", 1)}, api.ErrStale},
		{of("ab", 1), api.Edit{At: 0, Old: of("ab", 2)}, api.ErrStale},
		{of("ab", 1), api.Edit{At: 0, Old: text{S: "ab", R: list{{L: 1, N: 1}, {L: 2, N: 1}}}}, api.ErrStale},
	} {
		expectApply(t, c.x, c.e, text{}, c.want)
	}
}

func TestApplyToTheLimit(t *testing.T) {
	expectApply(t, many(4095), api.Edit{At: 4095, New: of("m", 1)}, many(4096), api.OK)
	expectApply(t, many(4096), api.Edit{At: 4096}, many(4096), api.OK)
	expectApply(t, many(4096), api.Edit{Old: many(4096), New: of("z", 2)}, of("z", 2), api.OK)
	expectApply(t, many(4096), api.Edit{Old: many(4096), New: many(4096)}, many(4096), api.OK)
	expectApply(t, text{}, api.Edit{New: many(4096)}, many(4096), api.OK)
	expectApply(t, text{}, api.Edit{}, text{}, api.OK)
	expectApply(t, text{R: list{}}, api.Edit{Old: text{R: list{}}, New: text{R: list{}}}, text{}, api.OK)
}

// P7.2

func TestInvert(t *testing.T) {
	somes := slices.Concat(texts(1, "a", 0, 1), edges(), bads()) // Invert asks for no good edit
	for _, at := range append([]int{0, 1, 4096}, wild...) {
		for _, old := range somes {
			for _, new := range somes {
				e := api.Edit{At: at, Old: old, New: new}
				if got := Invert(e); got.At != at || !strip.Same(got.Old, new) || !strip.Same(got.New, old) {
					t.Errorf("Invert(%s) = %s", showEdit(e), showEdit(got))
				}
			}
		}
	}
}

func TestOf(t *testing.T) {
	for _, x := range texts(3, "a#", 0, 1) {
		cells := cellsOf(x)
		for _, y := range append(texts(1, "z", 0, 2), edges()[2]) {
			for from := -2; from <= len(cells)+2; from++ {
				for to := -2; to <= len(cells)+2; to++ {
					if from < 0 || from > to || to > len(cells) {
						expectOf(t, x, from, to, y, api.Edit{}, api.ErrArg)
					} else {
						expectOf(t, x, from, to, y, api.Edit{At: from, Old: textOf(cells[from:to]), New: y}, api.OK)
					}
				}
			}
		}
	}
}

func TestOfAtTheEdges(t *testing.T) {
	full := many(4096)
	for _, c := range []struct {
		x        text
		from, to int
		n        int
		want     api.Errno
	}{
		{full, 0, 4096, 4096, api.OK},
		{full, 4096, 4096, 0, api.OK},
		{full, 4095, 4096, 1, api.OK},
		{full, 0, 10, 9, api.OK},
		{text{}, 0, 0, 4096, api.OK},
		{many(4095), 4095, 4095, 1, api.OK},
		{many(4095), 4095, 4095, 2, api.ErrBig},
		{full, 0, 0, 1, api.ErrBig},
		{full, 4096, 4096, 1, api.ErrBig},
		{full, 0, 10, 11, api.ErrBig},
		{full, 1, 4096, 4096, api.ErrBig},
		{full, 4096, 4097, 1, api.ErrArg}, // and too big, but that is named later
		{full, 4097, 4097, 1, api.ErrArg},
		{full, -1, 0, 1, api.ErrArg},
		{full, 2, 1, 4096, api.ErrArg},
		{full, math.MinInt, math.MaxInt, 1, api.ErrArg},
		{full, math.MaxInt, math.MinInt, 1, api.ErrArg},
		{full, math.MinInt, math.MinInt, 0, api.ErrArg},
		{full, math.MaxInt, math.MaxInt, 0, api.ErrArg},
	} {
		var want api.Edit
		if c.want == api.OK {
			want = api.Edit{At: c.from, Old: many(c.to - c.from), New: many(c.n)}
		}
		expectOf(t, c.x, c.from, c.to, many(c.n), want, c.want)
	}
}

func TestOfWhatMayNotBe(t *testing.T) {
	for _, bad := range bads() {
		for _, c := range [][2]int{{0, 0}, {0, 1}, {1, 1}, {0, 4096}, {4096, 4096}, {-1, 0}, {3, 2}} {
			for _, x := range []text{{}, of("a", 1), many(4096), bad} { // with many it may be too big as well
				expectOf(t, bad, c[0], c[1], x, api.Edit{}, api.ErrArg)
				expectOf(t, x, c[0], c[1], bad, api.Edit{}, api.ErrArg)
			}
		}
	}
}

func TestOfMakesWhatFits(t *testing.T) {
	for _, x := range slices.Concat(texts(2, "a#", 0, 1), edges()) {
		n := len(x.S)
		for _, y := range edges() {
			for _, c := range [][2]int{{0, 0}, {0, n}, {n, n}, {n / 2, n}} {
				e, err := Of(x, c[0], c[1], y)
				if err == api.ErrBig {
					continue
				}
				want, _ := strip.Splice(x, c[0], c[1], y)
				expectApply(t, x, e, want, err)
			}
		}
	}
}

// P7.3

// joined is the Join of two edits in the chapter's words; nil: there is none.
func joined(a, b api.Edit) *api.Edit {
	if !fits(a.At) || !fits(b.At) || b.At < a.At {
		return nil
	}
	cells, err := replaced(cellsOf(a.New), b.At-a.At, cellsOf(b.Old), cellsOf(b.New))
	if err != api.OK {
		return nil
	}
	return &api.Edit{At: a.At, Old: a.Old, New: textOf(cells)}
}

func TestJoin(t *testing.T) {
	ends := map[bool]int{}
	for _, old := range []text{{}, of("o", 1)} {
		for _, new := range texts(3, "a#", 0, 1) {
			for at := range 3 {
				a := api.Edit{At: at, Old: old, New: new}
				for _, b := range small() {
					for b.At = range 8 {
						want := joined(a, b)
						expectJoin(t, a, b, want)
						ends[want != nil]++
					}
				}
			}
		}
	}
	if ends[true] < 1000 || ends[false] < 1000 {
		t.Errorf("the calls tell too little: %v", ends)
	}
}

// small are good edits of few bytes.
func small() []api.Edit {
	var all []api.Edit
	for _, old := range append(texts(1, "a#", 0, 1), text{S: "aa", R: list{{L: 1, N: 1}, {L: 0, N: 1}}}) {
		for _, new := range []text{{}, of("z", 1), {S: "a#", R: list{{L: 0, N: 1}, {L: 2, N: 1}}}} {
			all = append(all, api.Edit{Old: old, New: new})
		}
	}
	return all
}

func TestJoinAtTheEdges(t *testing.T) {
	full := many(4096)
	for _, c := range []struct {
		a, b api.Edit
		is   bool
	}{
		{api.Edit{}, api.Edit{}, true},
		{api.Edit{At: 4096}, api.Edit{At: 4096}, true},
		{api.Edit{At: 4095}, api.Edit{At: 4096}, false},
		{api.Edit{At: 4096}, api.Edit{At: 4095}, false},
		{api.Edit{At: 4095, New: of("a", 1)}, api.Edit{At: 4096}, true},
		{api.Edit{New: full}, api.Edit{At: 4096}, true},
		{api.Edit{New: full}, api.Edit{At: 4096, New: of("z", 1)}, false}, // too much
		{api.Edit{New: full}, api.Edit{At: 4095, Old: of("m", 1), New: of("z", 1)}, true},
		{api.Edit{New: full}, api.Edit{At: 4095, Old: of("m", 1), New: of("zz", 1)}, false}, // too much
		{api.Edit{New: full}, api.Edit{At: 4095, Old: of("mm", 1)}, false},
		{api.Edit{New: full}, api.Edit{Old: full}, true},
		{api.Edit{New: full}, api.Edit{Old: full, New: full}, true},
		{api.Edit{New: full}, api.Edit{At: 1, Old: full}, false},
		{api.Edit{At: 1, New: full}, api.Edit{Old: of("m", 1)}, false},
		{api.Edit{Old: full}, api.Edit{New: full}, true},
		{api.Edit{Old: full, New: many(4095)}, api.Edit{At: 4095, New: of("z", 2)}, true},
		{api.Edit{Old: full, New: many(4095)}, api.Edit{At: 4095, New: of("zz", 2)}, false}, // too much
		{api.Edit{New: of("a", 1)}, api.Edit{Old: of("a", 2)}, false},                       // another label
		{api.Edit{New: of("a", 1)}, api.Edit{At: 1, New: of("b", 1)}, true},
		{api.Edit{New: of("a", 1)}, api.Edit{At: 2, New: of("b", 1)}, false},
		{api.Edit{New: text{R: list{}}}, api.Edit{Old: text{R: list{}}}, true},
	} {
		want := joined(c.a, c.b)
		if (want != nil) != c.is {
			t.Fatalf("the chapter's words on %s and %s", showEdit(c.a), showEdit(c.b))
		}
		expectJoin(t, c.a, c.b, want)
	}
}

func TestJoinOfWhatMayNotBe(t *testing.T) {
	for _, bad := range badEdits() {
		for _, good := range []api.Edit{{}, {At: 4096}, {New: many(4096)}, {At: 4096, New: many(4096)}, {New: of("a", 1)}} {
			expectJoin(t, bad, good, nil)
			expectJoin(t, good, bad, nil)
		}
		expectJoin(t, bad, bad, nil)
	}
	a := api.Edit{At: 4000, New: many(4096)} // from its place on there would be bytes enough
	expectJoin(t, a, api.Edit{At: 4097, Old: of("m", 1)}, nil)
	expectJoin(t, a, api.Edit{At: 8096}, nil)
	expectJoin(t, api.Edit{At: -5, New: many(20)}, api.Edit{At: 3}, nil)
	expectJoin(t, api.Edit{At: math.MinInt, New: many(20)}, api.Edit{At: 3}, nil)
	expectJoin(t, api.Edit{At: 3, New: many(20)}, api.Edit{At: math.MinInt}, nil)
}

// P7.4

func TestFollow(t *testing.T) {
	e := func(at, old, new int) api.Edit { return api.Edit{At: at, Old: many(old), New: many(new)} }
	for _, c := range []struct {
		e    api.Edit
		want []int // where 0, 1, 2 .. go
	}{
		{e(0, 0, 0), []int{0, 1, 2, 3}},
		{e(0, 0, 2), []int{0, 3, 4, 5}},
		{e(1, 0, 2), []int{0, 1, 4, 5}},
		{e(1, 1, 2), []int{0, 1, 3, 4, 5}},
		{e(1, 1, 0), []int{0, 1, 1, 2, 3}},
		{e(1, 3, 0), []int{0, 1, 1, 1, 1, 2}},
		{e(1, 3, 1), []int{0, 1, 2, 2, 2, 3}},
		{e(1, 3, 2), []int{0, 1, 2, 3, 3, 4}},
		{e(1, 3, 3), []int{0, 1, 2, 3, 4, 5}},
		{e(1, 3, 5), []int{0, 1, 2, 3, 6, 7}},
		{e(0, 2, 4), []int{0, 1, 4, 5}},
		{e(3, 2, 0), []int{0, 1, 2, 3, 3, 3, 4}},
	} {
		for at, want := range c.want {
			if got := Follow(c.e, at); got != want {
				t.Errorf("Follow(%s, %d) = %d, not %d", showEdit(c.e), at, got, want)
			}
		}
	}
}

func TestFollowAtTheEdges(t *testing.T) {
	full := many(4096)
	for _, c := range []struct {
		e        api.Edit
		at, want int
	}{
		{api.Edit{New: full}, 0, 0},
		{api.Edit{New: full}, 1, 4097},
		{api.Edit{New: full}, 4096, 8192},
		{api.Edit{New: full}, 4097, 4097},
		{api.Edit{Old: full}, 4095, 0},
		{api.Edit{Old: full}, 4096, 0},
		{api.Edit{Old: full}, 4097, 4097},
		{api.Edit{Old: full, New: full}, 4095, 4095},
		{api.Edit{At: 4095, New: of("a", 1)}, 4095, 4095},
		{api.Edit{At: 4095, New: of("a", 1)}, 4096, 4097},
		{api.Edit{At: 4096, New: of("a", 1)}, 4096, 4096},
		{api.Edit{At: 4090, Old: full, New: of("a", 1)}, 4096, 4091},
		{api.Edit{At: 4090, Old: full, New: full}, 4096, 4096},
	} {
		if got := Follow(c.e, c.at); got != c.want {
			t.Errorf("Follow(%s, %d) = %d, not %d", showEdit(c.e), c.at, got, c.want)
		}
	}
}

func TestFollowStays(t *testing.T) {
	places := append([]int{0, 1, 2, 4095, 4096}, wild...)
	for _, e := range badEdits() {
		for _, at := range places {
			if got := Follow(e, at); got != at {
				t.Errorf("Follow(%s, %d) = %d", showEdit(e), at, got)
			}
		}
	}
	for _, e := range []api.Edit{{New: of("ab", 1)}, {Old: of("ab", 1)}, {At: 4096, New: many(4096)}, {Old: many(4096)}} {
		for _, at := range wild {
			if got := Follow(e, at); got != at {
				t.Errorf("Follow(%s, %d) = %d", showEdit(e), at, got)
			}
		}
	}
}

func TestFollowKeepsToItsByte(t *testing.T) {
	x := of("abcdefgh", 1)
	for from := range 9 {
		for to := from; to <= 8; to++ {
			for _, new := range []text{{}, of("z", 2), of("vwxyz", 2)} {
				e, _ := Of(x, from, to, new)
				after, _ := Apply(x, e)
				expectFollow(t, x, e, after)
			}
		}
	}
}

// expectFollow: offsets keep their order, stay in the text, and go along with the byte at them if that one stays and isn't the first at the edit's place.
func expectFollow(t *testing.T, x text, e api.Edit, after text) {
	t.Helper()
	last := 0
	for at := range len(x.S) + 1 {
		to := Follow(e, at)
		if to < last || to > len(after.S) {
			t.Fatalf("Follow(%s, %d) = %d, after %d", showEdit(e), at, to, last)
		}
		if at < len(x.S) && (at < e.At || at > e.At && at >= e.At+len(e.Old.S)) && after.S[to] != x.S[at] {
			t.Errorf("Follow(%s, %d) = %d: another byte", showEdit(e), at, to)
		}
		last = to
	}
	if e.At < len(x.S) && last != len(after.S) {
		t.Errorf("Follow(%s, %d) = %d: no longer the end", showEdit(e), len(x.S), last)
	}
}

// P7.5

func TestUndone(t *testing.T) {
	done := 0
	for _, x := range slices.Concat(texts(3, "a#", 0, 1), edges()) {
		for _, e := range small() {
			for e.At = range 5 {
				after, err := Apply(x, e)
				if err != api.OK {
					continue
				}
				done++
				expectApply(t, after, Invert(e), x, api.OK)
			}
		}
	}
	if done < 1000 {
		t.Errorf("only %d edits", done)
	}
}

func TestUndoneAtTheEdges(t *testing.T) {
	for _, x := range edges() {
		n := len(x.S)
		for _, y := range edges() {
			for _, c := range [][2]int{{0, 0}, {0, n}, {n, n}, {n / 2, n}, {0, min(n, 1)}} {
				e, err := Of(x, c[0], c[1], y)
				if err != api.OK {
					continue
				}
				after, _ := Apply(x, e)
				expectApply(t, after, Invert(e), x, api.OK)
				expectApply(t, x, Invert(Invert(e)), after, api.OK)
			}
		}
	}
}

// P7.6

func TestAsOne(t *testing.T) {
	done := 0
	for _, x := range texts(2, "a#", 0, 1) {
		for _, a := range small() {
			for a.At = range 3 {
				after, err := Apply(x, a)
				for _, b := range small() {
					for b.At = a.At; b.At < a.At+4; b.At++ {
						both, is := Join(a, b)
						if !is {
							continue
						}
						if err != api.OK {
							expectApply(t, x, both, text{}, err)
							continue
						}
						want, wantError := Apply(after, b)
						expectApply(t, x, both, want, wantError)
						done++
					}
				}
			}
		}
	}
	if done < 1000 {
		t.Errorf("only %d pairs of edits", done)
	}
}

func TestAsOneAtTheLimit(t *testing.T) {
	x := many(4000)
	a := api.Edit{At: 4000, New: of("aa", 2)}
	for n := 90; n < 100; n++ {
		b := api.Edit{At: 4001, Old: of("a", 2), New: many(n)}
		both, is := Join(a, b)
		if !is {
			t.Fatalf("no Join with %d bytes", n)
		}
		after, _ := Apply(x, a)
		want, wantError := Apply(after, b)
		if (wantError == api.ErrBig) != (n > 95) {
			t.Errorf("%d bytes: %d", n, wantError)
		}
		expectApply(t, x, both, want, wantError)
	}
}

func TestAsOneUndone(t *testing.T) {
	x := of("abc", 1)
	a, _ := Of(x, 1, 2, of("xy", 2))
	after, _ := Apply(x, a)
	b, _ := Of(after, 2, 3, of("uvw", 4))
	last, _ := Apply(after, b)
	both, is := Join(a, b)
	if !is {
		t.Fatal("no Join")
	}
	expectApply(t, x, both, last, api.OK)
	expectApply(t, last, Invert(both), x, api.OK)
}

func TestManyAsOne(t *testing.T) {
	x := of("abc", 1)
	all, _ := Of(x, 1, 1, text{})
	want := x
	for i := range 100 { // as somebody types who now and then takes a byte back
		from, to, y := 1+len(all.New.S), 1+len(all.New.S), of(string(rune('a'+i%26)), api.Label(i%3))
		if i%4 == 3 {
			from, y = from-1, text{}
		}
		e, err := Of(want, from, to, y)
		if err != api.OK {
			t.Fatalf("Of: %d", err)
		}
		want, _ = Apply(want, e)
		both, is := Join(all, e)
		if !is {
			t.Fatalf("no Join of %s and %s", showEdit(all), showEdit(e))
		}
		all = both
		expectApply(t, x, all, want, api.OK)
	}
	expectApply(t, want, Invert(all), x, api.OK)
}

// P7.7

// pair is two texts that are alike for the level 1.
type pair struct{ a, b text }

// pairs are all of them among texts of up to n bytes, three labels, and bytes like the mark of a hidden one.
func pairs(n int) []pair {
	var all []pair
	some := texts(n, "a#", 0, 1, 2)
	for _, a := range some {
		for _, b := range some {
			if strip.Low(a, b, 1) {
				all = append(all, pair{a, b})
			}
		}
	}
	return all
}

// expectAlike compares what one edit of two texts that are alike makes of them, as far as the level 1 sees.
func expectAlike(t *testing.T, x pair, from, to int, y pair) {
	t.Helper()
	a, ea := Of(x.a, from, to, y.a)
	b, eb := Of(x.b, from, to, y.b)
	if ea != eb || a.At != b.At || !strip.Low(a.Old, b.Old, 1) || !strip.Low(a.New, b.New, 1) {
		t.Errorf("Of for %s and %s: %s (%d) and %s (%d)", show(x.a), show(x.b), showEdit(a), ea, showEdit(b), eb)
	}
	if ea != api.OK {
		return
	}
	afterA, ea := Apply(x.a, a)
	afterB, eb := Apply(x.b, b)
	if ea != api.OK || eb != api.OK || !strip.Low(afterA, afterB, 1) {
		t.Errorf("Apply: %s (%d) and %s (%d)", show(afterA), ea, show(afterB), eb)
	}
}

func TestHiddenBytesStayHidden(t *testing.T) {
	for _, x := range pairs(2) {
		for _, y := range pairs(2) {
			for from := -1; from <= len(x.a.S)+1; from++ {
				for to := -1; to <= len(x.a.S)+1; to++ {
					expectAlike(t, x, from, to, y)
				}
			}
		}
	}
}

func TestHiddenBytesStayHiddenAtTheLimit(t *testing.T) {
	secret := list{{L: 1, N: 4000}, {L: 2, N: 96}}
	x := pair{
		text{S: strings.Repeat("v", 4000) + strings.Repeat("a", 96), R: secret},
		text{S: strings.Repeat("v", 4000) + strings.Repeat("#", 96), R: secret},
	}
	for _, y := range pairs(1) {
		for _, c := range [][2]int{{0, 0}, {0, 4096}, {3999, 4001}, {4000, 4096}, {4050, 4051}, {4096, 4096}, {4096, 4097}} {
			expectAlike(t, x, c[0], c[1], y)
		}
	}
}

// The chapter's example

func TestExample(t *testing.T) {
	x := of("abc", 1)
	e := api.Edit{At: 1, Old: of("b", 1), New: of("xy", 2)}
	expectOf(t, x, 1, 2, of("xy", 2), e, api.OK)
	expectApply(t, x, e, text{S: "axyc", R: list{{L: 1, N: 1}, {L: 2, N: 2}, {L: 1, N: 1}}}, api.OK)
	if Follow(e, 3) != 4 || Follow(e, 1) != 1 {
		t.Errorf("Follow: %d, %d", Follow(e, 3), Follow(e, 1))
	}
	expectApply(t, of("acc", 1), e, text{}, api.ErrStale)
	expectApply(t, of("a", 1), e, text{}, api.ErrArg)
	expectJoin(t, e, api.Edit{At: 2, Old: of("y", 2)}, &api.Edit{At: 1, Old: of("b", 1), New: of("x", 2)})
	expectJoin(t, e, api.Edit{At: 3, Old: of("c", 1)}, nil)
}

// R6

// spoil writes to all of a text's runs, also where an append would write.
func spoil(x text) {
	reach := x.R[:cap(x.R)]
	for i := range reach {
		reach[i] = api.Run{L: 99, N: 99}
	}
}

// kept is a text that stays as it is now, whoever writes to this one's runs.
func kept(x text) text { return text{S: x.S, R: slices.Clone(x.R)} }

func TestMemory(t *testing.T) {
	x := text{S: "abcdef", R: list{{L: 1, N: 2}, {L: 2, N: 3}, {L: 4, N: 1}}}
	y := text{S: "yz", R: list{{L: 8, N: 1}, {L: 1, N: 1}}}
	first := api.Edit{At: 0, Old: x, New: x}
	second := api.Edit{At: 1, Old: textOf(cellsOf(x)[1:3]), New: y}
	keptX, keptY, keptOld := kept(x), kept(y), kept(second.Old)
	calls := []func() api.Edit{
		func() api.Edit { return Invert(first) },
		func() api.Edit { return Invert(second) },
		func() api.Edit { e, _ := Of(x, 0, 6, x); return e },
		func() api.Edit { e, _ := Of(x, 2, 2, y); return e },
		func() api.Edit { e, _ := Join(first, second); return e },
		func() api.Edit { e, _ := Join(first, api.Edit{}); return e },
		func() api.Edit { e, _ := Join(api.Edit{Old: y}, api.Edit{New: x}); return e },
		func() api.Edit { after, _ := Apply(x, second); return api.Edit{New: after} },
		func() api.Edit { after, _ := Apply(x, first); return api.Edit{New: after} },
		func() api.Edit { after, _ := Apply(x, api.Edit{}); return api.Edit{New: after} },
		func() api.Edit { after, _ := Apply(text{}, api.Edit{New: x}); return api.Edit{New: after} },
	}
	for i, call := range calls {
		got := call()
		want := api.Edit{At: got.At, Old: kept(got.Old), New: kept(got.New)}
		spoil(got.Old)
		if !strip.Same(got.New, want.New) {
			t.Errorf("call %d: the lists of its result share memory", i)
		}
		spoil(got.New)
		if again := call(); !sameEdit(again, want) {
			t.Errorf("call %d: its result shares memory: %s, then %s", i, showEdit(want), showEdit(again))
		}
		if !strip.Same(x, keptX) || !strip.Same(y, keptY) || !strip.Same(second.Old, keptOld) || second.At != 1 {
			t.Fatalf("call %d: the arguments are now %s, %s, %s", i, show(x), show(y), showEdit(second))
		}
	}
}

func TestAskingChangesNothing(t *testing.T) {
	x, y := of("abc", 1), of("b", 1)
	e := api.Edit{At: 1, Old: y, New: text{S: "zz", R: list{{L: 1, N: 1}, {L: 2, N: 1}}}}
	before := api.Edit{At: 1, Old: kept(e.Old), New: kept(e.New)}
	Check(x, e)
	Follow(e, 2)
	Join(e, e)
	Invert(e)
	if !strip.Same(x, of("abc", 1)) || !sameEdit(e, before) {
		t.Errorf("the arguments are now %s, %s", show(x), showEdit(e))
	}
}
