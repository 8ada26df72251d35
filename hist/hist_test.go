package hist

import (
	"fmt"
	"math"
	"math/rand"
	"slices"
	"strings"
	"testing"

	"bureau/api"
	"bureau/edit"
	"bureau/strip"
)

type (
	text = api.Text
	list = []api.Run
)

// The chapter's own words, as a tree of nodes with their children, in another way than the program's.

// node is a state, with the edit that led to it.
type node struct {
	n    int
	by   api.Edit
	up   *node
	down []*node
}

// all are the nodes of a subtree.
func (x *node) all() []*node {
	nodes := []*node{x}
	for _, c := range x.down {
		nodes = append(nodes, c.all()...)
	}
	return nodes
}

// model is a history in the chapter's words.
type model struct {
	depth     int
	given     int
	root, now *node
}

func newModel(depth int) *model {
	first := &node{}
	return &model{depth: depth, root: first, now: first}
}

func (m *model) add(e api.Edit) int {
	m.given++
	child := &node{n: m.given, by: e, up: m.now}
	m.now.down = append(m.now.down, child)
	m.now = child
	for len(m.root.all())-1 > m.depth {
		at := slices.IndexFunc(m.root.down, func(c *node) bool { return slices.Contains(c.all(), m.now) })
		m.root = m.root.down[at]
		m.root.up = nil
	}
	return m.given
}

func (m *model) undo() (api.Edit, api.Errno) {
	if m.now == m.root {
		return api.Edit{}, api.ErrNone
	}
	e := m.now.by
	m.now = m.now.up
	return api.Edit{At: e.At, Old: e.New, New: e.Old}, api.OK
}

func (m *model) redo() (api.Edit, api.Errno) {
	if len(m.now.down) == 0 {
		return api.Edit{}, api.ErrNone
	}
	m.now = slices.MaxFunc(m.now.down, func(a, b *node) int { return a.n - b.n })
	return m.now.by, api.OK
}

func (m *model) states() []int {
	var numbers []int
	for _, x := range m.root.all() {
		numbers = append(numbers, x.n)
	}
	slices.Sort(numbers)
	return numbers
}

func (m *model) path() []int {
	var numbers []int
	for x := m.now; x != nil; x = x.up {
		numbers = slices.Insert(numbers, 0, x.n)
	}
	return numbers
}

func (m *model) copy() *model {
	other := &model{depth: m.depth, given: m.given}
	var copied func(x, up *node) *node
	copied = func(x, up *node) *node {
		y := &node{n: x.n, by: x.by, up: up}
		if x == m.now {
			other.now = y
		}
		for _, c := range x.down {
			y.down = append(y.down, copied(c, y))
		}
		return y
	}
	other.root = copied(m.root, nil)
	return other
}

// of is a text all of whose bytes have one label.
func of(s string, l api.Label) text {
	if s == "" {
		return text{}
	}
	return text{S: s, R: list{{L: l, N: len(s)}}}
}

// many is a text of n bytes of one label.
func many(n int) text { return of(strings.Repeat("m", n), 1) }

// numbered is an edit unlike that of any other number.
func numbered(n int) api.Edit {
	return api.Edit{At: n, Old: of(strings.Repeat("o", n%3), 1), New: of(fmt.Sprint("n", n), api.Label(n))}
}

// bads are texts that are not good, in one way or another.
func bads() []text {
	return []text{
		{S: "a"},
		{R: list{{L: 1, N: 1}}},
		{R: list{{L: 1, N: 0}}},
		{S: "ab", R: list{{L: 1, N: 1}}},
		{S: "ab", R: list{{L: 1, N: 3}}},
		{S: "ab", R: list{{L: 1, N: 1}, {L: 1, N: 1}}},
		{S: "ab", R: list{{L: 1, N: 2}, {L: 2, N: 0}}},
		{S: "ab", R: list{{L: 1, N: 3}, {L: 2, N: -1}}},
		{S: "a", R: list{{L: 1, N: math.MaxInt}, {L: 2, N: math.MaxInt}, {L: 1, N: 3}}},
		{S: "a", R: list{{L: 1, N: math.MinInt}, {L: 2, N: math.MaxInt}, {L: 1, N: 2}}},
		many(4097),
		{S: strings.Repeat("a", 4097), R: list{{L: 1, N: 4096}}},
	}
}

// wild are places that no good edit may have.
var wild = []int{math.MinInt, math.MinInt + 1, -4097, -4096, -1, 4097, 8192, math.MaxInt - 1, math.MaxInt}

// badEdits are edits that are not good: one of their texts isn't, or their place.
func badEdits() []api.Edit {
	var all []api.Edit
	for _, bad := range bads() {
		for _, at := range []int{0, 1, 4096} {
			for _, x := range []text{{}, of("a", 1), bad} {
				all = append(all, api.Edit{At: at, Old: bad, New: x}, api.Edit{At: at, Old: x, New: bad})
			}
		}
	}
	for _, at := range wild {
		for _, x := range []text{{}, of("a", 1), many(4096)} {
			all = append(all, api.Edit{At: at, Old: x, New: of("b", 2)}, api.Edit{At: at, Old: of("a", 1), New: x}, api.Edit{At: at})
		}
	}
	return all
}

// goodEdits are edits at the ends of what a good one may be.
func goodEdits() []api.Edit {
	odd := text{S: "\x00\xff\n#\xc3", R: list{{L: 0, N: 1}, {L: 3, N: 2}, {L: 1 << 63, N: 1}, {L: math.MaxUint64, N: 1}}}
	var all []api.Edit
	for _, at := range []int{0, 1, 4095, 4096} {
		for _, old := range []text{{}, {R: list{}}, of("a", 0), odd, many(4096)} {
			for _, new := range []text{{}, {R: list{}}, of("z", 9), odd, many(4095), many(4096)} {
				all = append(all, api.Edit{At: at, Old: old, New: new})
			}
		}
	}
	return all
}

// show is a text in a failure's message: quoted, as it may have broken bytes, and no longer than a line.
func show(t text) string {
	return fmt.Sprintf("%.40q %v", t.S, t.R[:min(8, len(t.R))])
}

// showEdit is an edit in a failure's message.
func showEdit(e api.Edit) string {
	return fmt.Sprintf("{%d: %s -> %s}", e.At, show(e.Old), show(e.New))
}

// sameEdit: do two edits have the same place and the same texts, good or not?
func sameEdit(a, b api.Edit) bool {
	same := func(a, b text) bool { return a.S == b.S && slices.Equal(a.R, b.R) }
	return a.At == b.At && same(a.Old, b.Old) && same(a.New, b.New)
}

// expectState compares all that a history tells with its model.
func expectState(t *testing.T, h *Hist, m *model) {
	t.Helper()
	if h.Now() != m.now.n {
		t.Errorf("Now = %d, not %d", h.Now(), m.now.n)
	}
	if !slices.Equal(h.States(), m.states()) {
		t.Errorf("States = %v, not %v", h.States(), m.states())
	}
	if !slices.Equal(h.Path(), m.path()) {
		t.Errorf("Path = %v, not %v", h.Path(), m.path())
	}
}

// expectAdd compares what Add answers, and what the history is then, with its model.
func expectAdd(t *testing.T, h *Hist, m *model, e api.Edit) {
	t.Helper()
	want := m.add(e)
	if n, err := h.Add(e); n != want || err != api.OK {
		t.Errorf("Add(%s) = %d, %d, not %d", showEdit(e), n, err, want)
	}
	expectState(t, h, m)
}

// expectUndo compares what Undo answers, and what the history is then, with its model.
func expectUndo(t *testing.T, h *Hist, m *model) {
	t.Helper()
	want, wantError := m.undo()
	if e, err := h.Undo(); err != wantError || !sameEdit(e, want) {
		t.Errorf("Undo = %s, %d, not %s, %d", showEdit(e), err, showEdit(want), wantError)
	}
	expectState(t, h, m)
}

// expectRedo compares what Redo answers, and what the history is then, with its model.
func expectRedo(t *testing.T, h *Hist, m *model) {
	t.Helper()
	want, wantError := m.redo()
	if e, err := h.Redo(); err != wantError || !sameEdit(e, want) {
		t.Errorf("Redo = %s, %d, not %s, %d", showEdit(e), err, showEdit(want), wantError)
	}
	expectState(t, h, m)
}

// step does to a history and its model what a letter says: add, undo or redo.
func step(t *testing.T, h *Hist, m *model, what byte) {
	t.Helper()
	switch what {
	case 'a':
		expectAdd(t, h, m, numbered(m.given+1))
	case 'u':
		expectUndo(t, h, m)
	case 'r':
		expectRedo(t, h, m)
	}
}

// after is a history of a depth, and its model, after such steps.
func after(t *testing.T, depth int, steps string) (*Hist, *model) {
	t.Helper()
	h, m := New(depth), newModel(depth)
	for i := range len(steps) {
		step(t, h, m, steps[i])
	}
	return h, m
}

// drain undoes all that can be, and redoes it: what was answered with each edit must be the model's.
func drain(t *testing.T, h *Hist, m *model) {
	t.Helper()
	for range m.depth + 1 {
		expectUndo(t, h, m)
	}
	for range m.depth + 1 {
		expectRedo(t, h, m)
	}
}

// everyRow calls a function with each row of n letters.
func everyRow(letters string, n int, call func(string)) {
	if n == 0 {
		call("")
		return
	}
	everyRow(letters, n-1, func(row string) {
		for i := range len(letters) {
			call(row + letters[i:i+1])
		}
	})
}

// nones are histories that neither New nor Copy created.
func nones() map[string]*Hist {
	return map[string]*Hist{"nil": nil, "the zero value": {}}
}

// P8.1

func TestNew(t *testing.T) {
	for depth := 1; depth <= 64; depth++ {
		h := New(depth)
		if h == nil {
			t.Fatalf("New(%d) = nil", depth)
		}
		expectState(t, h, newModel(depth))
		expectUndo(t, h, newModel(depth))
		expectRedo(t, h, newModel(depth))
	}
}

func TestNewOfWhatMayNotBe(t *testing.T) {
	for _, depth := range []int{math.MinInt, -65, -64, -1, 0, 65, 66, 128, math.MaxInt32 + 1, math.MaxInt} {
		if h := New(depth); h != nil {
			t.Errorf("New(%d) = %v", depth, h)
		}
	}
}

func TestNewHistoriesAreApart(t *testing.T) {
	h, m := after(t, 3, "aau")
	other := New(3)
	expectState(t, other, newModel(3))
	other.Add(numbered(9))
	other.Undo()
	other.Undo()
	expectState(t, h, m)
	drain(t, h, m)
}

// P8.2, P8.3

func TestAllSteps(t *testing.T) {
	for depth := 1; depth <= 4; depth++ {
		everyRow("aur", 8, func(steps string) {
			h, m := after(t, depth, steps)
			drain(t, h, m)
			if t.Failed() {
				t.Fatalf("New(%d), then %s", depth, steps)
			}
		})
	}
}

// TestAddsAndUndos has trees that are wider and deeper than those of all steps.
func TestAddsAndUndos(t *testing.T) {
	for depth := 2; depth <= 6; depth++ {
		everyRow("au", 12, func(steps string) {
			h, m := after(t, depth, steps)
			drain(t, h, m)
			if t.Failed() {
				t.Fatalf("New(%d), then %s", depth, steps)
			}
		})
	}
}

func TestAddOfGoodEdits(t *testing.T) {
	h, m := New(64), newModel(64)
	for _, e := range goodEdits() {
		expectAdd(t, h, m, e)
		expectUndo(t, h, m)
		expectRedo(t, h, m)
	}
}

func TestAddOfWhatMayNotBe(t *testing.T) {
	for _, steps := range []string{"", "a", "au", "aaaa", "aauaauu"} {
		h, m := after(t, 3, steps)
		for _, e := range badEdits() {
			if n, err := h.Add(e); n != 0 || err != api.ErrArg {
				t.Errorf("Add(%s) = %d, %d", showEdit(e), n, err)
			}
			expectState(t, h, m)
		}
		expectAdd(t, h, m, numbered(8)) // its number tells whether one was given to a bad edit
		drain(t, h, m)
	}
}

func TestNumbersAreNotGivenAgain(t *testing.T) {
	h, m := after(t, 1, "")
	for want := 1; want <= 50; want++ {
		if n, err := h.Add(numbered(want)); n != want || err != api.OK {
			t.Fatalf("Add = %d, %d, not %d", n, err, want)
		}
		m.add(numbered(want))
		expectUndo(t, h, m) // the next one forgets this one, as it isn't on its path
	}
}

func TestForget(t *testing.T) {
	for _, c := range []struct {
		depth        int
		steps        string
		states, path []int
	}{
		{1, "a", []int{0, 1}, []int{0, 1}},
		{1, "aa", []int{1, 2}, []int{1, 2}},
		{1, "aua", []int{2}, []int{2}}, // 1 goes with 0, as it isn't on the path
		{2, "aa", []int{0, 1, 2}, []int{0, 1, 2}},
		{2, "aaa", []int{1, 2, 3}, []int{1, 2, 3}},
		{2, "aua", []int{0, 1, 2}, []int{0, 2}},
		{2, "auaua", []int{3}, []int{3}},
		{2, "auaa", []int{2, 3}, []int{2, 3}},
		{2, "auara", []int{2, 3}, []int{2, 3}},
		{2, "aauaa", []int{3, 4}, []int{3, 4}},          // 0 goes, and then 1 with 2
		{3, "aauaa", []int{1, 2, 3, 4}, []int{1, 3, 4}}, // 2 is of 1's subtree
		{3, "aauuaa", []int{3, 4}, []int{3, 4}},         // 1 goes with its child 2
		{3, "aaaua", []int{1, 2, 3, 4}, []int{1, 2, 4}}, // 3 too may be redone
		{3, "aaauua", []int{1, 2, 3, 4}, []int{1, 4}},   // 2 and 3 stay beside the path
		{3, "aaauuua", []int{4}, []int{4}},              // 1 goes with 2 and 3
		{4, "aaauuuaa", []int{4, 5}, []int{4, 5}},       // as above, with a path of two
		{4, "aaauuaa", []int{1, 2, 3, 4, 5}, []int{1, 4, 5}},
		{4, "aaauuaaa", []int{4, 5, 6}, []int{4, 5, 6}}, // one more, and 1 goes with 2 and 3
	} {
		h, _ := after(t, c.depth, c.steps)
		if !slices.Equal(h.States(), c.states) || !slices.Equal(h.Path(), c.path) {
			t.Errorf("New(%d), then %s: states %v, path %v, not %v, %v", c.depth, c.steps, h.States(), h.Path(), c.states, c.path)
		}
	}
}

func TestForgetManyAtOnce(t *testing.T) {
	for _, depth := range []int{1, 2, 10, 63, 64} {
		h, m := after(t, depth, strings.Repeat("au", depth))
		if len(h.States()) != depth+1 {
			t.Fatalf("New(%d): states %v", depth, h.States())
		}
		step(t, h, m, 'a')
		if !slices.Equal(h.States(), []int{depth + 1}) || !slices.Equal(h.Path(), []int{depth + 1}) {
			t.Errorf("New(%d): states %v, path %v", depth, h.States(), h.Path())
		}
		expectUndo(t, h, m)
		expectRedo(t, h, m)
		expectAdd(t, h, m, numbered(99))
		drain(t, h, m)
	}
}

func TestLongestPath(t *testing.T) {
	h, m := after(t, 64, strings.Repeat("a", 64))
	if h.Path()[0] != 0 || len(h.Path()) != 65 {
		t.Errorf("path %v", h.Path())
	}
	drain(t, h, m)
	step(t, h, m, 'a')
	if h.Path()[0] != 1 || len(h.Path()) != 65 {
		t.Errorf("path %v", h.Path())
	}
	drain(t, h, m)
}

func TestUndoAndRedoAtTheEnds(t *testing.T) {
	h, m := after(t, 3, "aaaaa")
	for range 3 {
		expectRedo(t, h, m) // ErrNone, and nothing changes
	}
	for range 6 {
		expectUndo(t, h, m)
	}
	if e, err := h.Undo(); err != api.ErrNone || !sameEdit(e, api.Edit{}) {
		t.Errorf("Undo at the first state: %s, %d", showEdit(e), err)
	}
	for range 6 {
		expectRedo(t, h, m)
	}
	if e, err := h.Redo(); err != api.ErrNone || !sameEdit(e, api.Edit{}) {
		t.Errorf("Redo without a child: %s, %d", showEdit(e), err)
	}
}

func TestRedoTakesTheYoungest(t *testing.T) {
	h, _ := after(t, 64, "auaauuauaau"+"uuu") // 1, 2, 4 and 5 are children of 0, 3 of 2, and 6 of 5
	if !slices.Equal(h.States(), []int{0, 1, 2, 3, 4, 5, 6}) || h.Now() != 0 {
		t.Fatalf("states %v, now %d", h.States(), h.Now())
	}
	for _, want := range []int{5, 6} {
		if e, err := h.Redo(); err != api.OK || !sameEdit(e, numbered(want)) || h.Now() != want {
			t.Errorf("Redo = %s, %d, now %d, not %d", showEdit(e), err, h.Now(), want)
		}
	}
	for range 64 { // with a choice of many, each time the same
		c, m := after(t, 64, strings.Repeat("au", 60))
		expectRedo(t, c, m)
	}
}

func TestEqualEditsAreStatesOfTheirOwn(t *testing.T) {
	h, m := New(4), newModel(4)
	for range 3 {
		expectAdd(t, h, m, api.Edit{})
		expectUndo(t, h, m)
	}
	expectAdd(t, h, m, numbered(2))
	drain(t, h, m)
}

// P8.2, P8.3 and P8.4, for histories that there aren't

func TestNil(t *testing.T) {
	for name, h := range nones() {
		for range 2 { // the first call must not create one
			for _, e := range append(badEdits(), api.Edit{}, numbered(1)) {
				if n, err := h.Add(e); n != 0 || err != api.ErrNil {
					t.Errorf("%s: Add = %d, %d", name, n, err)
				}
			}
			if e, err := h.Undo(); err != api.ErrNil || !sameEdit(e, api.Edit{}) {
				t.Errorf("%s: Undo = %s, %d", name, showEdit(e), err)
			}
			if e, err := h.Redo(); err != api.ErrNil || !sameEdit(e, api.Edit{}) {
				t.Errorf("%s: Redo = %s, %d", name, showEdit(e), err)
			}
			if h.Now() != 0 || len(h.States()) != 0 || len(h.Path()) != 0 {
				t.Errorf("%s: now %d, states %v, path %v", name, h.Now(), h.States(), h.Path())
			}
			if c := h.Copy(); c != nil {
				t.Errorf("%s: Copy = %v", name, c)
			}
		}
	}
}

// P8.4

func TestCopy(t *testing.T) {
	for depth := 1; depth <= 3; depth++ {
		everyRow("aur", 6, func(steps string) {
			h, m := after(t, depth, steps)
			c := h.Copy()
			expectState(t, c, m)
			other := m.copy()
			drain(t, c, other)
			for range depth + 1 {
				step(t, c, other, 'a') // the numbers go on, and the depth is the same
			}
			expectState(t, h, m)
			drain(t, h, m)
			if t.Failed() {
				t.Fatalf("New(%d), then %s", depth, steps)
			}
		})
	}
}

func TestCopiesGoOnApart(t *testing.T) {
	everyRow("aur", 4, func(first string) {
		everyRow("aur", 4, func(second string) {
			h, m := after(t, 3, "aaua")
			c, other := h.Copy(), m.copy()
			for i := range 4 { // in turns, so that each goes on beside what the other did
				step(t, h, m, first[i])
				step(t, c, other, second[i])
				expectState(t, h, m)
			}
			drain(t, h, m)
			drain(t, c, other)
			if t.Failed() {
				t.Fatalf("%s, and a copy %s", first, second)
			}
		})
	})
}

func TestCopyOfACopy(t *testing.T) {
	h, m := after(t, 2, "aau")
	c, other := h.Copy().Copy(), m.copy()
	step(t, h, m, 'a')
	expectState(t, c, other)
	step(t, c, other, 'u')
	drain(t, h, m)
	drain(t, c, other)
}

// P8.5

func TestBounds(t *testing.T) {
	for _, depth := range []int{1, 2, 5, 33, 64} {
		r := rand.New(rand.NewSource(int64(depth)))
		h, m := New(depth), newModel(depth)
		for range 3000 {
			step(t, h, m, "aaaaauuuurr"[r.Intn(11)])
			states, path := h.States(), h.Path()
			if len(states)-1 > depth || !slices.Contains(states, h.Now()) || path[len(path)-1] != h.Now() {
				t.Errorf("now %d, states %v, path %v", h.Now(), states, path)
			}
			for i, n := range path {
				if i > 0 && n <= path[i-1] || !slices.Contains(states, n) {
					t.Errorf("states %v, path %v", states, path)
				}
			}
			if t.Failed() {
				t.FailNow()
			}
		}
	}
}

// P8.6

// page is a text that goes along with a history, and what it was at each state.
type page struct {
	h    *Hist
	now  text
	were map[int]text
}

// follow applies an edit that the history answered, and compares the text with what it was at the state.
func (p *page) follow(t *testing.T, e api.Edit, err api.Errno) {
	t.Helper()
	if err == api.ErrNone {
		return
	}
	next, applied := edit.Apply(p.now, e)
	if err != api.OK || applied != api.OK || !strip.Same(next, p.were[p.h.Now()]) {
		t.Fatalf("at state %d the text is %s, not %s (%d, %d)", p.h.Now(), show(next), show(p.were[p.h.Now()]), err, applied)
	}
	p.now = next
}

// change makes an edit of the text and adds it.
func (p *page) change(t *testing.T, from, to int, x text) {
	t.Helper()
	e, err := edit.Of(p.now, from, to, x)
	if err != api.OK {
		t.Fatalf("Of(%d, %d, %s) = %d", from, to, show(x), err)
	}
	n, err := p.h.Add(e)
	if err != api.OK {
		t.Fatalf("Add(%s) = %d", showEdit(e), err)
	}
	p.now, _ = edit.Apply(p.now, e)
	p.were[n] = p.now
}

func TestTexts(t *testing.T) {
	for _, depth := range []int{1, 2, 3, 8, 64} {
		r := rand.New(rand.NewSource(int64(depth)))
		start := text{S: "a\xffb\n", R: list{{L: 1, N: 2}, {L: 2, N: 2}}}
		p := &page{New(depth), start, map[int]text{0: start}}
		for range 3000 {
			switch r.Intn(5) {
			case 0, 1:
				e, err := p.h.Undo()
				p.follow(t, e, err)
			case 2:
				e, err := p.h.Redo()
				p.follow(t, e, err)
			default:
				n := len(p.now.S)
				from := r.Intn(n + 1)
				to := min(n, from+r.Intn(5))
				p.change(t, from, to, of(strings.Repeat(string(rune('a'+r.Intn(26))), r.Intn(5)), api.Label(r.Intn(4))))
			}
		}
	}
}

func TestTextsAtTheLimit(t *testing.T) {
	full := many(4096)
	p := &page{New(4), text{}, map[int]text{0: {}}}
	p.change(t, 0, 0, full)
	p.change(t, 0, 4096, of(strings.Repeat("z", 4096), 1<<63))
	p.change(t, 0, 4096, text{})
	p.change(t, 0, 0, full)
	for range 5 {
		e, err := p.h.Undo()
		p.follow(t, e, err)
	}
	if !strip.Same(p.now, text{}) || p.h.Now() != 0 {
		t.Errorf("the first text is %s, at %d", show(p.now), p.h.Now())
	}
	for range 5 {
		e, err := p.h.Redo()
		p.follow(t, e, err)
	}
	if !strip.Same(p.now, full) || p.h.Now() != 4 {
		t.Errorf("the last text is %s, at %d", show(p.now), p.h.Now())
	}
}

// The chapter's example

func TestExample(t *testing.T) {
	a, b, c := numbered(7), numbered(8), numbered(9)
	h := New(2)
	for i, e := range []api.Edit{a, b} {
		if n, err := h.Add(e); n != i+1 || err != api.OK {
			t.Errorf("Add = %d, %d, not %d", n, err, i+1)
		}
	}
	if e, err := h.Undo(); err != api.OK || !sameEdit(e, edit.Invert(b)) {
		t.Errorf("Undo = %s, %d", showEdit(e), err)
	}
	if n, err := h.Add(c); n != 3 || err != api.OK {
		t.Errorf("Add = %d, %d, not 3", n, err)
	}
	if !slices.Equal(h.States(), []int{1, 2, 3}) || !slices.Equal(h.Path(), []int{1, 3}) {
		t.Errorf("states %v, path %v", h.States(), h.Path())
	}
	if e, err := h.Undo(); err != api.OK || !sameEdit(e, edit.Invert(c)) {
		t.Errorf("Undo = %s, %d", showEdit(e), err)
	}
	if e, err := h.Undo(); err != api.ErrNone || !sameEdit(e, api.Edit{}) {
		t.Errorf("Undo = %s, %d", showEdit(e), err)
	}
	if e, err := h.Redo(); err != api.OK || !sameEdit(e, c) {
		t.Errorf("Redo = %s, %d", showEdit(e), err)
	}
}

// R5 and R6

// spoil writes to all of a text's runs, and to what lies behind them.
func spoil(x text) {
	reach := x.R[:cap(x.R)]
	for i := range reach {
		reach[i] = api.Run{L: 99, N: 99}
	}
}

// spoilEdit writes to all that an edit's texts have.
func spoilEdit(e api.Edit) {
	spoil(e.Old)
	spoil(e.New)
}

// roomy is an edit whose lists of runs have room behind them.
func roomy() api.Edit {
	old := append(make(list, 0, 9), api.Run{L: 1, N: 2}, api.Run{L: 2, N: 1})
	new := append(make(list, 0, 9), api.Run{L: 4, N: 1}, api.Run{L: 1, N: 1})
	return api.Edit{At: 3, Old: text{S: "abc", R: old}, New: text{S: "yz", R: new}}
}

func TestMemory(t *testing.T) {
	h := New(3)
	given, want := roomy(), roomy()
	h.Add(given)
	if !sameEdit(given, want) {
		t.Fatalf("the argument is now %s", showEdit(given))
	}
	c := h.Copy()
	spoilEdit(given)
	for range 3 {
		for _, x := range []*Hist{h, c} { // what one of them answers is not the other's either
			e, err := x.Undo()
			if err != api.OK || !sameEdit(e, edit.Invert(want)) {
				t.Fatalf("Undo = %s, %d", showEdit(e), err)
			}
			spoilEdit(e)
			e, err = x.Redo()
			if err != api.OK || !sameEdit(e, want) {
				t.Fatalf("Redo = %s, %d", showEdit(e), err)
			}
			spoilEdit(e)
		}
	}
}

func TestOldAndNewOfOneList(t *testing.T) {
	h := New(3)
	x := text{S: "abc", R: list{{L: 1, N: 2}, {L: 2, N: 1}}}
	h.Add(api.Edit{Old: x, New: x})
	e, _ := h.Undo()
	spoil(e.Old)
	if !sameEdit(e, api.Edit{Old: e.Old, New: x}) {
		t.Errorf("Undo's texts share their runs: %s", showEdit(e))
	}
	e, _ = h.Redo()
	spoil(e.Old)
	if !sameEdit(e, api.Edit{Old: e.Old, New: x}) {
		t.Errorf("Redo's texts share their runs: %s", showEdit(e))
	}
}

func TestListsAreNew(t *testing.T) {
	h, m := after(t, 3, "aauaa")
	for _, ask := range []func() []int{h.States, h.Path} {
		got := ask()
		got = got[:cap(got)]
		for i := range got {
			got[i] = 99
		}
		expectState(t, h, m)
	}
	drain(t, h, m)
}

func TestAskingChangesNothing(t *testing.T) {
	everyRow("aur", 6, func(steps string) {
		h, m := after(t, 2, "")
		for i := range len(steps) {
			h.Copy()
			h.Now()
			h.States()
			h.Path()
			h.Add(api.Edit{At: -1})
			step(t, h, m, steps[i])
		}
		drain(t, h, m)
		if t.Failed() {
			t.Fatal(steps)
		}
	})
}

func TestKeepsNoMoreThanItNeeds(t *testing.T) {
	h, _ := after(t, 2, strings.Repeat("aaauau", 50))
	if len(h.states) > 3 {
		t.Errorf("%d states are kept", len(h.states))
	}
	if first := h.states[h.Path()[0]]; !sameEdit(first.by, api.Edit{}) {
		t.Errorf("the first state keeps %s, which can't be undone", showEdit(first.by))
	}
}
