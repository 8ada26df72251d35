package regs

import (
	"fmt"
	"math"
	"math/rand"
	"slices"
	"strings"
	"testing"

	"bureau/api"
	"bureau/strip"
)

type (
	text  = api.Text
	entry = api.Entry
	list  = []api.Run
)

const (
	lower  = "abcdefghijklmnopqrstuvwxyz"
	upper  = "ABCDEFGHIJKLMNOPQRSTUVWXYZ"
	digits = "0123456789"
)

// The chapter's own words, written out, in another way than the program's.

// cell is a byte with its label.
type cell struct {
	b byte
	l api.Label
}

// cellsOf is each byte of a good text with its label.
func cellsOf(t text) []cell {
	var all []cell
	for _, r := range t.R {
		for range r.N {
			all = append(all, cell{t.S[len(all)], r.L})
		}
	}
	return all
}

// textOf is the one good text of given cells.
func textOf(cells []cell) text {
	var s strings.Builder
	var runs list
	for i, c := range cells {
		s.WriteByte(c.b)
		if i == 0 || cells[i-1].l != c.l {
			runs = append(runs, api.Run{L: c.l})
		}
		runs[len(runs)-1].N++
	}
	return text{S: s.String(), R: runs}
}

// call is a call of Yank or of Delete.
type call struct {
	deletes bool
	name    rune
	x       entry
	wide    bool
}

// model is the registers in the chapter's words. A register that is empty has no entry.
type model struct {
	named map[rune]entry // a to z
	wide  []entry        // 1 to 9, as far as they have something: the newest first
	rest  map[string]entry
}

func newModel() *model {
	return &model{named: map[rune]entry{}, rest: map[string]entry{}}
}

func (m *model) do(c call) api.Errno {
	if !writable(c.name) || !strip.Good(c.x.T) {
		return api.ErrArg
	}
	at := slices.Index([]rune(lower+upper), c.name)
	switch {
	case c.name == '_':
		return api.OK
	case at >= 0:
		return m.letter([]rune(lower)[at%26], at >= 26, c.x)
	case !c.deletes:
		m.rest["zero"] = c.x
	case c.wide || c.x.Lines:
		m.wide = slices.Insert(m.wide, 0, c.x)
		m.wide = m.wide[:min(9, len(m.wide))]
	default:
		m.rest["small"] = c.x
	}
	m.rest["last"] = c.x
	return api.OK
}

func (m *model) letter(name rune, appends bool, x entry) api.Errno {
	if old, ok := m.named[name]; ok && appends {
		if len(old.T.S)+len(x.T.S) > 4096 {
			return api.ErrBig
		}
		x = entry{T: textOf(append(cellsOf(old.T), cellsOf(x.T)...)), Lines: old.Lines || x.Lines}
	}
	m.named[name], m.rest["last"] = x, x
	return api.OK
}

func (m *model) get(name rune) (entry, api.Errno) {
	if !readable(name) {
		return entry{}, api.ErrArg
	}
	x, ok := m.rest["last"]
	switch letter, digit := slices.Index([]rune(lower+upper), name), slices.Index([]rune(digits), name); {
	case letter >= 0:
		x, ok = m.named[[]rune(lower)[letter%26]]
	case digit == 0:
		x, ok = m.rest["zero"]
	case digit > len(m.wide):
		x, ok = entry{}, false
	case digit > 0:
		x, ok = m.wide[digit-1], true
	case name == '-':
		x, ok = m.rest["small"]
	}
	if !ok {
		return entry{}, api.ErrNone
	}
	return x, api.OK
}

func (m *model) copy() *model {
	other := newModel()
	for name, x := range m.named {
		other.named[name] = x
	}
	for name, x := range m.rest {
		other.rest[name] = x
	}
	other.wide = slices.Clone(m.wide)
	return other
}

// writable: is it a name for writing?
func writable(name rune) bool {
	return slices.Contains([]rune("\x00\"_"+lower+upper), name)
}

// readable: is it a name for reading?
func readable(name rune) bool { return slices.Contains(readables(), name) }

// readables are the names for reading.
func readables() []rune { return []rune("\x00\"-" + lower + upper + digits) }

// wild are names that denote no register, wherever they stand.
func wild() []rune {
	names := []rune{math.MinInt32, math.MinInt32 + 'a', -0x110000, -256, -'a', -'Z', -'0', -34, -2, -1, math.MaxInt32}
	for name := rune(1); name < 0x300; name++ {
		if !readable(name) && !writable(name) {
			names = append(names, name)
		}
	}
	// Their low bits are those of names that there are.
	for _, name := range slices.Concat(readables(), []rune{'_'}) {
		names = append(names, name+0x100, name+0x10000, name+0x110000)
	}
	return append(names, 0x660, 0xD800, 0xFF21, 0xFF41, 0xFFFD, 0x10FFFF, 0x110000)
}

// of is a text all of whose bytes have one label.
func of(s string, l api.Label) text {
	if s == "" {
		return text{}
	}
	return text{S: s, R: list{{L: l, N: len(s)}}}
}

// many is a text of n bytes of one label.
func many(n int) text { return of(strings.Repeat("m", n), 1) }

// some is an entry with a text unlike that of any other number.
func some(n int) entry {
	return entry{T: of(fmt.Sprint("s", n), api.Label(n))}
}

// edges are good texts at the ends of what there may be.
func edges() []text {
	return []text{
		{},
		{R: list{}},
		{S: "\x00\xff\n#\xc3", R: list{{L: 0, N: 1}, {L: 3, N: 2}, {L: 1 << 63, N: 1}, {L: math.MaxUint64, N: 1}}},
		{S: "\u00e9\u00e9", R: list{{L: 1, N: 1}, {L: 2, N: 2}, {L: 1, N: 1}}}, // runs may end within a character
		many(4095),
		many(4096),
		{S: strings.Repeat("ab", 2048), R: list{{L: 1, N: 4000}, {L: 2, N: 96}}},
	}
}

// bads are texts that are not good, in one way or another.
func bads() []text {
	return []text{
		{S: "a"},
		{R: list{{L: 1, N: 1}}},
		{R: list{{L: 1, N: 0}}},
		{S: "ab", R: list{{L: 1, N: 1}}},
		{S: "ab", R: list{{L: 1, N: 3}}},
		{S: "ab", R: list{{L: 1, N: 1}, {L: 1, N: 1}}},
		{S: "ab", R: list{{L: 1, N: 2}, {L: 2, N: 0}}},
		{S: "ab", R: list{{L: 1, N: 3}, {L: 2, N: -1}}},
		{S: "a", R: list{{L: 1, N: math.MaxInt}, {L: 2, N: math.MaxInt}, {L: 1, N: 3}}},
		{S: "a", R: list{{L: 1, N: math.MinInt}, {L: 2, N: math.MaxInt}, {L: 1, N: 2}}},
		many(4097),
		{S: strings.Repeat("a", 4097), R: list{{L: 1, N: 4096}}},
	}
}

// show is an entry in a failure's message: quoted, as it may have broken bytes, and no longer than a line.
func show(x entry) string {
	lines := ""
	if x.Lines {
		lines = " lines"
	}
	return fmt.Sprintf("%.40q %v%s", x.T.S, x.T.R[:min(8, len(x.T.R))], lines)
}

func (c call) String() string {
	if c.deletes {
		return fmt.Sprintf("Delete(%q, %s, %v)", c.name, show(c.x), c.wide)
	}
	return fmt.Sprintf("Yank(%q, %s)", c.name, show(c.x))
}

// on makes the call.
func (c call) on(r *Regs) api.Errno {
	if c.deletes {
		return r.Delete(c.name, c.x, c.wide)
	}
	return r.Yank(c.name, c.x)
}

// calls are all calls with an entry under a name.
func calls(name rune, x entry) []call {
	return []call{{name: name, x: x}, {deletes: true, name: name, x: x}, {deletes: true, name: name, x: x, wide: true}}
}

// same: have two entries the same bytes, runs and Lines?
func same(a, b entry) bool {
	return a.T.S == b.T.S && slices.Equal(a.T.R, b.T.R) && a.Lines == b.Lines
}

// expectGet compares what Get answers with what it ought to.
func expectGet(t *testing.T, r *Regs, name rune, want entry, wantError api.Errno) {
	t.Helper()
	if x, err := r.Get(name); err != wantError || !same(x, want) {
		t.Errorf("Get(%q) = %s, %d, not %s, %d", name, show(x), err, show(want), wantError)
	}
}

// expectState compares all registers, by all of their names, with their model.
func expectState(t *testing.T, r *Regs, m *model) {
	t.Helper()
	for _, name := range readables() {
		want, wantError := m.get(name)
		expectGet(t, r, name, want, wantError)
	}
}

// step makes a call, on the model too, and compares the error.
func step(t *testing.T, r *Regs, m *model, c call) {
	t.Helper()
	want := m.do(c)
	if err := c.on(r); err != want {
		t.Errorf("%s = %d, not %d", c, err, want)
	}
}

// expectCall makes a call, on the model too, and compares the error and all registers.
func expectCall(t *testing.T, r *Regs, m *model, c call) {
	t.Helper()
	step(t, r, m, c)
	expectState(t, r, m)
	if t.Failed() {
		t.Fatal(c)
	}
}

// after is registers, and their model, after such calls.
func after(t *testing.T, steps ...call) (*Regs, *model) {
	t.Helper()
	r, m := New(), newModel()
	for _, c := range steps {
		step(t, r, m, c)
	}
	return r, m
}

// whole is registers all of which have an entry of their own, and their model.
func whole(t *testing.T) (*Regs, *model) {
	t.Helper()
	r, m := New(), newModel()
	for i, name := range lower {
		step(t, r, m, call{name: name, x: some(100 + i)})
	}
	for i := range 9 {
		step(t, r, m, call{deletes: true, x: some(200 + i), wide: true})
	}
	step(t, r, m, call{deletes: true, x: some(300)})
	step(t, r, m, call{x: some(400)})
	step(t, r, m, call{name: 'm', x: some(500)})
	expectState(t, r, m)
	return r, m
}

// everyRow calls a function with each row of n of so many things.
func everyRow(things, n int, do func([]int)) {
	row := make([]int, n)
	for {
		do(row)
		i := 0
		for i < n && row[i] == things-1 {
			row[i] = 0
			i++
		}
		if i == n {
			return
		}
		row[i]++
	}
}

// kinds are calls of each kind that makes a difference, with the entry of a number.
func kinds(n int) []call {
	x := some(n)
	lines, none, noneOfLines := entry{T: x.T, Lines: true}, entry{}, entry{Lines: true}
	return []call{
		{name: 0, x: x},
		{name: '"', x: lines},
		{name: '_', x: x},
		{name: 'a', x: x},
		{name: 'a', x: noneOfLines},
		{name: 'A', x: x},
		{name: 'A', x: lines},
		{name: 'z', x: none},
		{name: 'Z', x: x},
		{deletes: true, name: 0, x: x},
		{deletes: true, name: '"', x: x, wide: true},
		{deletes: true, name: 0, x: lines},
		{deletes: true, name: '"', x: none},
		{deletes: true, name: '_', x: lines, wide: true},
		{deletes: true, name: 'a', x: lines, wide: true},
		{deletes: true, name: 'A', x: x},
		{deletes: true, name: '3', x: x},
	}
}

// nones are registers that neither New nor Copy created.
func nones() map[string]*Regs {
	return map[string]*Regs{"nil": nil, "the zero value": {}}
}

// P9.1, P9.2 and P9.3

func TestNew(t *testing.T) {
	r := New()
	if r == nil {
		t.Fatal("New() = nil")
	}
	expectState(t, r, newModel())
	other, m := whole(t)
	expectState(t, r, newModel()) // those that were made since are others
	step(t, r, newModel(), call{name: 'm', x: some(1)})
	expectState(t, other, m)
}

func TestAllCalls(t *testing.T) {
	for n := 1; n <= 4; n++ {
		everyRow(len(kinds(0)), n, func(row []int) {
			var steps []call
			for i, kind := range row {
				steps = append(steps, kinds(i + 1)[kind])
			}
			r, m := after(t, steps...)
			expectState(t, r, m)
			if t.Failed() {
				t.Fatal(steps)
			}
		})
	}
}

func TestManyCalls(t *testing.T) {
	random := rand.New(rand.NewSource(9))
	for range 50 {
		r, m := New(), newModel()
		for i := range 200 {
			all := slices.Concat(kinds(i), calls([]rune(lower + upper)[random.Intn(52)], some(i)))
			expectCall(t, r, m, all[random.Intn(len(all))])
		}
	}
}

// TestEveryName has each name that a call may have, before and after there is something.
func TestEveryName(t *testing.T) {
	for _, name := range slices.Concat(readables(), []rune{'_'}, wild()) {
		for _, x := range []entry{some(1), {T: some(2).T, Lines: true}, {}} {
			for _, c := range calls(name, x) {
				r, m := after(t)
				expectCall(t, r, m, c)
				if !writable(name) {
					continue
				}
				r, m = whole(t)
				expectCall(t, r, m, c)
				expectCall(t, r, m, c)
			}
		}
	}
}

func TestNamesThatMayNotBe(t *testing.T) {
	r, m := whole(t)
	for _, name := range append(wild(), []rune("-"+digits)...) {
		for _, c := range calls(name, some(1)) {
			if err := c.on(r); err != api.ErrArg {
				t.Errorf("%s = %d", c, err)
			}
		}
	}
	for _, name := range append(wild(), '_') {
		expectGet(t, r, name, entry{}, api.ErrArg)
	}
	expectState(t, r, m)
}

// TestEveryRune asks for each rune there is, and for some that there aren't.
func TestEveryRune(t *testing.T) {
	r, _ := whole(t)
	got := 0
	for name := rune(-0x300); name <= 0x110300; name++ {
		x, err := r.Get(name)
		if err == api.OK {
			got++
		} else if err != api.ErrArg || !same(x, entry{}) {
			t.Fatalf("Get(%q) = %s, %d", name, show(x), err)
		}
		if err = r.Yank(name, some(1)); (err == api.OK) != (name >= 0 && name < 128 && writable(name)) {
			t.Fatalf("Yank(%q) = %d", name, err)
		}
	}
	if got != len(readables()) {
		t.Errorf("Get answers for %d names, not for %d", got, len(readables()))
	}
}

func TestTextsAtTheEdges(t *testing.T) {
	for _, name := range []rune{0, '"', '_', 'a', 'A', 'm', 'z', 'Z'} {
		for _, x := range edges() {
			for _, lines := range []bool{false, true} {
				for _, c := range calls(name, entry{T: x, Lines: lines}) {
					r, m := after(t)
					expectCall(t, r, m, c)
					expectCall(t, r, m, c)
				}
			}
		}
	}
}

func TestTextsThatMayNotBe(t *testing.T) {
	r, m := whole(t)
	empty := New()
	for _, name := range []rune{0, '"', '_', 'a', 'M', 'Z', '3', '-', '!', -1} {
		for _, x := range bads() {
			for _, lines := range []bool{false, true} {
				for _, c := range calls(name, entry{T: x, Lines: lines}) {
					if err := c.on(r); err != api.ErrArg {
						t.Errorf("%s = %d", c, err)
					}
					if err := c.on(empty); err != api.ErrArg {
						t.Errorf("%s = %d, for registers without anything", c, err)
					}
				}
			}
		}
	}
	expectState(t, r, m)
	expectState(t, empty, newModel())
}

// TestBig appends up to the limit, and beyond it.
func TestBig(t *testing.T) {
	for _, c := range []struct{ has, gets int }{
		{0, 4096}, {1, 4095}, {1, 4096}, {2048, 2048}, {2048, 2049}, {4095, 1}, {4095, 2}, {4096, 0}, {4096, 1}, {4096, 4096},
	} {
		for _, now := range calls('M', entry{T: of(strings.Repeat("z", c.gets), 2), Lines: true}) {
			r, m := whole(t)
			expectCall(t, r, m, call{name: 'm', x: entry{T: many(c.has)}})
			expectCall(t, r, m, call{name: 'n', x: some(1)}) // so that the last register differs from m
			want := api.OK
			if c.has+c.gets > 4096 {
				want = api.ErrBig
			}
			if err := now.on(r); err != want {
				t.Errorf("%d bytes, then %s = %d, not %d", c.has, now, err, want)
			}
			m.do(now)
			expectState(t, r, m)
		}
	}
}

// TestBigIsOfAppendedTextsAlone: where nothing is appended, what the register had does not count.
func TestBigIsOfAppendedTextsAlone(t *testing.T) {
	for _, name := range []rune{0, '"', '_', 'm', 'N'} {
		for _, now := range calls(name, entry{T: many(4096)}) {
			r, m := after(t, call{name: 'm', x: entry{T: many(4096)}}, call{x: entry{T: many(4096)}}, call{deletes: true, x: entry{T: many(4096)}})
			expectCall(t, r, m, now)
			if _, err := r.Get(0); err != api.OK {
				t.Errorf("%s: %d", now, err)
			}
		}
	}
}

// TestErrArgGoesFirst: a bad name or text is named even where the register would be too big.
func TestErrArgGoesFirst(t *testing.T) {
	r, _ := after(t, call{name: 'm', x: entry{T: many(4096)}})
	for _, c := range calls('M', entry{T: many(4097)}) {
		if err := c.on(r); err != api.ErrArg {
			t.Errorf("%s = %d", c, err)
		}
	}
}

func TestAppend(t *testing.T) {
	ab := text{S: "ab", R: list{{L: 1, N: 1}, {L: 2, N: 1}}}
	for _, c := range []struct{ has, gets, want entry }{
		{entry{T: of("a", 1)}, entry{T: of("b", 1)}, entry{T: of("ab", 1)}}, // one run
		{entry{T: of("a", 1)}, entry{T: of("b", 2)}, entry{T: ab}},
		{entry{T: of("a", 1), Lines: true}, entry{T: of("b", 2)}, entry{T: ab, Lines: true}},
		{entry{T: of("a", 1)}, entry{T: of("b", 2), Lines: true}, entry{T: ab, Lines: true}},
		{entry{T: of("a", 1), Lines: true}, entry{T: of("b", 2), Lines: true}, entry{T: ab, Lines: true}},
		{entry{T: ab}, entry{}, entry{T: ab}},
		{entry{T: ab}, entry{Lines: true}, entry{T: ab, Lines: true}},
		{entry{}, entry{T: ab}, entry{T: ab}},
		{entry{Lines: true}, entry{T: ab}, entry{T: ab, Lines: true}}, // a register with a text without bytes isn't empty
		{entry{}, entry{}, entry{}},
	} {
		for i, name := range upper {
			for _, now := range calls(name, c.gets) {
				r, _ := after(t, call{name: rune(lower[i]), x: c.has}, now)
				for _, asked := range []rune{name, rune(lower[i]), 0, '"'} {
					expectGet(t, r, asked, c.want, api.OK)
				}
			}
		}
	}
}

func TestAppendToAnEmptyRegister(t *testing.T) {
	for i, name := range upper {
		for _, x := range []entry{some(7), {T: some(7).T, Lines: true}, {}, {Lines: true}} {
			for _, now := range calls(name, x) {
				r, _ := after(t, now)
				expectGet(t, r, rune(lower[i]), x, api.OK)
				expectGet(t, r, 0, x, api.OK)
			}
		}
	}
}

// TestTextsWithoutBytes: a register that stores such a text isn't empty.
func TestTextsWithoutBytes(t *testing.T) {
	for _, x := range []entry{{}, {Lines: true}} {
		r, _ := after(t, call{x: x}, call{deletes: true, wide: true, x: x}, call{name: 'q', x: x})
		for _, name := range []rune{0, '"', '0', '1', 'q', 'Q'} {
			expectGet(t, r, name, x, api.OK)
		}
		expectGet(t, r, '2', entry{}, api.ErrNone)
		expectGet(t, r, '-', entry{}, api.ErrNone)
	}
}

func TestDeleteOfLinesIsWide(t *testing.T) {
	for _, c := range []struct {
		lines, wide bool
		name        rune
	}{{false, false, '-'}, {false, true, '1'}, {true, false, '1'}, {true, true, '1'}} {
		for _, name := range []rune{0, '"'} {
			x := entry{T: some(1).T, Lines: c.lines}
			r, _ := after(t, call{deletes: true, name: name, x: x, wide: c.wide})
			for _, asked := range readables() {
				if asked == c.name || asked == 0 || asked == '"' {
					expectGet(t, r, asked, x, api.OK)
				} else {
					expectGet(t, r, asked, entry{}, api.ErrNone)
				}
			}
		}
	}
}

func TestNil(t *testing.T) {
	for name, r := range nones() {
		for range 2 { // the first call must not create any
			for _, named := range slices.Concat(readables(), []rune{'_', '!', -1}) {
				for _, x := range append(bads(), text{}, some(1).T, many(4096)) {
					for _, c := range calls(named, entry{T: x}) {
						if err := c.on(r); err != api.ErrNil {
							t.Errorf("%s: %s = %d", name, c, err)
						}
					}
				}
				if x, err := r.Get(named); err != api.ErrNil || !same(x, entry{}) {
					t.Errorf("%s: Get(%q) = %s, %d", name, named, show(x), err)
				}
			}
			if c := r.Copy(); c != nil {
				t.Errorf("%s: Copy = %v", name, c)
			}
		}
	}
}

func TestCopy(t *testing.T) {
	for n := 0; n <= 2; n++ {
		everyRow(len(kinds(0)), n+1, func(row []int) {
			var steps []call
			for i, kind := range row[:n] {
				steps = append(steps, kinds(i + 1)[kind])
			}
			r, m := after(t, steps...)
			c, other := r.Copy(), m.copy()
			step(t, c, other, kinds(50)[row[n]])
			expectState(t, r, m) // what is done to the copy is not done to the first ones
			expectState(t, c, other)
			c, other = r.Copy(), m.copy()
			step(t, r, m, kinds(60)[row[n]])
			expectState(t, r, m)
			expectState(t, c, other)
			if t.Failed() {
				t.Fatal(steps, row[n])
			}
		})
	}
}

func TestCopyOfACopy(t *testing.T) {
	r, m := whole(t)
	c, other := r.Copy().Copy(), m.copy()
	random := rand.New(rand.NewSource(1))
	for i := range 300 { // in turns, so that each goes on beside what the other did
		all := kinds(i)
		expectCall(t, r, m, all[random.Intn(len(all))])
		expectCall(t, c, other, all[random.Intn(len(all))])
		expectState(t, r, m)
	}
}

// P9.4

func TestInARow(t *testing.T) {
	between := []call{
		{x: some(901)},
		{name: 'a', x: entry{T: some(902).T, Lines: true}},
		{deletes: true, name: 'A', x: some(903), wide: true},
		{deletes: true, name: '_', x: some(904), wide: true},
		{deletes: true, x: some(905)},
		{deletes: true, name: '4', x: some(906), wide: true},
		{deletes: true, x: entry{T: many(4097), Lines: true}, wide: true},
	}
	for k := range 25 {
		r := New()
		for i := range k {
			c := call{deletes: true, name: []rune{0, '"'}[i%2], x: some(i), wide: true}
			if i%3 == 1 {
				c.wide, c.x.Lines = false, true
			}
			if err := c.on(r); err != api.OK {
				t.Fatalf("%s = %d", c, err)
			}
			between[i%len(between)].on(r) // what is no wide deletion without a name makes no difference
		}
		for i := range 9 {
			want, wantError := entry{}, api.ErrNone
			if n := k - 1 - i; n >= 0 {
				want, wantError = some(n), api.OK
				want.Lines = n%3 == 1
			}
			expectGet(t, r, rune(digits[i+1]), want, wantError)
		}
	}
}

// P9.5

func TestBeside(t *testing.T) {
	for i, small := range lower {
		for _, name := range []rune{small, rune(upper[i])} {
			for _, x := range []entry{some(7), {T: some(7).T, Lines: true}, {}, {T: many(4096)}} {
				for _, c := range calls(name, x) {
					r, _ := whole(t)
					before := r.Copy()
					c.on(r)
					for _, other := range readables() {
						if other != small && other != rune(upper[i]) && other != 0 && other != '"' {
							want, wantError := before.Get(other)
							expectGet(t, r, other, want, wantError)
						}
					}
					ofLetter, _ := r.Get(small)
					if c.x.T.S != many(4096).S || name == small {
						expectGet(t, r, 0, ofLetter, api.OK)
					}
				}
			}
		}
	}
}

func TestBlackHole(t *testing.T) {
	for _, x := range append(edges(), bads()...) {
		for _, c := range calls('_', entry{T: x, Lines: true}) {
			r, m := whole(t)
			c.on(r)
			expectState(t, r, m)
			r = New()
			c.on(r)
			expectState(t, r, newModel())
		}
	}
}

// P9.6

// pair are two texts that are alike for a level: they differ only in bytes that it does not see.
func pair(random *rand.Rand, level api.Label) (text, text) {
	var a, b []cell
	for range random.Intn(6) {
		c := cell{"ab#\n\xff"[random.Intn(5)], api.Label(random.Intn(8))}
		a = append(a, c)
		if c.l&^level != 0 {
			c.b = byte(random.Intn(256))
		}
		b = append(b, c)
	}
	return textOf(a), textOf(b)
}

func TestHiddenBytesStayHidden(t *testing.T) {
	random := rand.New(rand.NewSource(6))
	names := []rune("\x00\x00\"_aAaAbBzZ3")
	for round := range 400 {
		level := api.Label(round % 8)
		a, b := New(), New()
		for range 40 {
			x, y := pair(random, level)
			if !strip.Low(x, y, level) {
				t.Fatalf("%q and %q are not alike for %d", x.S, y.S, level)
			}
			c := call{deletes: random.Intn(2) == 0, name: names[random.Intn(len(names))], wide: random.Intn(2) == 0}
			lines := random.Intn(3) == 0
			other := c
			c.x, other.x = entry{T: x, Lines: lines}, entry{T: y, Lines: lines}
			if e, f := c.on(a), other.on(b); e != f {
				t.Fatalf("%s = %d, but %s = %d", c, e, other, f)
			}
			for _, name := range readables() {
				x, e := a.Get(name)
				y, f := b.Get(name)
				if e != f || x.Lines != y.Lines || !strip.Low(x.T, y.T, level) {
					t.Fatalf("after %s and %s, Get(%q) = %s, %d, but %s, %d", c, other, name, show(x), e, show(y), f)
				}
			}
		}
	}
}

// The chapter's example

func TestExample(t *testing.T) {
	e := func(s string) entry { return entry{T: of(s, 1)} }
	r := New()
	expect := func(name rune, want string) {
		t.Helper()
		expectGet(t, r, name, e(want), api.OK)
	}
	r.Yank(0, e("a"))
	expect(0, "a")
	expect('0', "a")
	r.Delete(0, e("b"), true)
	r.Delete(0, e("c"), true)
	expect('1', "c")
	expect('2', "b")
	expect('0', "a")
	r.Delete(0, e("d"), false)
	expect('-', "d")
	expect('"', "d")
	r.Yank('q', e("e"))
	r.Yank('Q', e("f"))
	expect('q', "ef")
	expect(0, "ef")
	if err := r.Yank('3', e("g")); err != api.ErrArg {
		t.Errorf("Yank('3') = %d", err)
	}
	expectGet(t, r, '_', entry{}, api.ErrArg)
	expectGet(t, r, 'z', entry{}, api.ErrNone)
}

// R5 and R6

// spoil writes to all of a text's runs, and to what lies behind them.
func spoil(x entry) {
	reach := x.T.R[:cap(x.T.R)]
	for i := range reach {
		reach[i] = api.Run{L: 99, N: 99}
	}
}

// roomy is an entry whose list of runs has room behind it.
func roomy() entry {
	return entry{T: text{S: "abc", R: append(make(list, 0, 9), api.Run{L: 1, N: 2}, api.Run{L: 2, N: 1})}}
}

func TestMemory(t *testing.T) {
	for _, name := range []rune{0, '"', '_', 'a', 'A', 'm', 'M'} {
		for i := range calls(name, entry{}) {
			r, m := whole(t)
			step(t, r, m, calls(name, roomy())[i])
			given := roomy()
			c := calls(name, given)[i]
			m.do(calls(name, roomy())[i])
			c.on(r)
			if !same(given, roomy()) {
				t.Fatalf("%s: the argument is now %s", c, show(given))
			}
			spoil(given)
			other := r.Copy()
			for range 2 {
				expectState(t, r, m)
				expectState(t, other, m)
				for _, asked := range readables() { // what one of them answers is not the other's either
					x, _ := r.Get(asked)
					spoil(x)
					x, _ = other.Get(asked)
					spoil(x)
				}
			}
			if t.Failed() {
				t.Fatal(c)
			}
		}
	}
}

func TestAskingChangesNothing(t *testing.T) {
	r, m := New(), newModel()
	for i := range 100 {
		r.Copy()
		r.Get('a')
		r.Get('!')
		r.Yank('_', some(900))
		r.Delete('!', some(900), true)
		step(t, r, m, kinds(i)[i%len(kinds(i))])
		expectState(t, r, m)
	}
}

// TestKeepsNoMoreThanItNeeds: there are 38 registers.
func TestKeepsNoMoreThanItNeeds(t *testing.T) {
	r, m := whole(t)
	entries := map[string]bool{}
	for _, name := range readables() {
		x, _ := m.get(name)
		entries[x.T.S] = true
	}
	if len(r.all) != 38 || len(entries) != 37 { // the last register has what a letter's has
		t.Errorf("%d registers with %d entries", len(r.all), len(entries))
	}
}
