package runs

import (
	"math"
	"slices"
	"testing"

	"bureau/api"
)

type list = []api.Run

// The chapter's own words, written out byte by byte, in another way than the program's.

// bytesOf is the label of each byte that a list without an N below 0 has.
func bytesOf(l list) []api.Label {
	var all []api.Label
	for _, r := range l {
		for range r.N {
			all = append(all, r.L)
		}
	}
	return all
}

// goodOf is the one good list of given bytes.
func goodOf(labels []api.Label) list {
	var l list
	for i := 0; i < len(labels); {
		end := i
		for end < len(labels) && labels[end] == labels[i] {
			end++
		}
		l = append(l, api.Run{L: labels[i], N: end - i})
		i = end
	}
	return l
}

func isGood(l list) bool {
	return !slices.ContainsFunc(l, func(r api.Run) bool { return r.N < 0 || r.N > api.MaxBytes }) &&
		len(bytesOf(l)) <= api.MaxBytes && slices.Equal(goodOf(bytesOf(l)), l)
}

// lists are all lists of up to three runs with labels 0 to 3 (three of them) and small numbers, good ones and others.
func lists() []list {
	all := []list{nil}
	for from, runs := 0, 1; runs <= 3; runs++ {
		to := len(all)
		for _, l := range all[from:to] {
			for _, x := range []api.Label{0, 1, 3} {
				for n := -1; n <= 2; n++ {
					all = append(all, append(slices.Clone(l), api.Run{L: x, N: n}))
				}
			}
		}
		from = to
	}
	return all
}

// goods are the good ones of them, and some at the limit.
func goods() []list {
	all := slices.DeleteFunc(lists(), func(l list) bool { return !isGood(l) })
	return append(all, list{{L: 1, N: 1}, {L: 2, N: 1}, {L: 4, N: 1}, {L: 1, N: 1}, {L: 2, N: 3}}, list{{L: 1 << 63, N: 2}, {L: math.MaxUint64, N: 2}, {L: 0, N: 1}})
}

// alternating is a list of n runs of one byte each.
func alternating(n int) list {
	var l list
	for i := range n {
		l = append(l, api.Run{L: api.Label(i % 2), N: 1})
	}
	return l
}

// bads are lists that are not good, each in one way alone.
func bads() []list {
	return []list{
		{{L: 1, N: 0}},
		{{L: 1, N: -1}},
		{{L: 1, N: math.MinInt}},
		{{L: 1, N: 2}, {L: 2, N: 0}},
		{{L: 1, N: 2}, {L: 2, N: -1}},
		{{L: 1, N: 0}, {L: 2, N: 2}},
		{{L: 1, N: 2}, {L: 1, N: 2}},
		{{L: 0, N: 2}, {L: 0, N: 2}},
		{{L: 2, N: 1}, {L: 1, N: 2}, {L: 1, N: 2}},
		{{L: 1, N: 2}, {L: 2, N: 0}, {L: 1, N: 2}},
		{{L: 1, N: 4097}},
		{{L: 1, N: 4096}, {L: 2, N: 1}},
		{{L: 1, N: 1}, {L: 2, N: 4096}},
		{{L: 1, N: math.MaxInt}},
		{{L: 1, N: math.MaxInt}, {L: 2, N: math.MaxInt}},
		{{L: 1, N: math.MaxInt}, {L: 2, N: 1}, {L: 1, N: math.MaxInt}, {L: 2, N: 2}},
		alternating(4097),
	}
}

// expect compares a result with the good list of bytes, or with an error.
func expect(t *testing.T, call string, got list, e api.Errno, want []api.Label, wantError api.Errno) {
	t.Helper()
	if e != wantError {
		t.Errorf("%s: error %d, not %d", call, e, wantError)
	} else if e != api.OK && len(got) > 0 {
		t.Errorf("%s: %v beside the error %d", call, got, e)
	} else if e == api.OK && !slices.Equal(got, goodOf(want)) {
		t.Errorf("%s: %v, not %v", call, got, goodOf(want))
	}
}

// P3.1

func TestGood(t *testing.T) {
	for _, l := range append(lists(), bads()...) {
		if Good(l) != isGood(l) {
			t.Errorf("Good(%v) = %v", l, Good(l))
		}
	}
	for _, l := range bads() {
		if Good(l) {
			t.Errorf("Good(%v)", l)
		}
	}
	for _, l := range []list{nil, {}, {{L: 0, N: 1}}, {{L: 1, N: 4096}}, {{L: 1, N: 4000}, {L: 2, N: 96}}, {{L: 1, N: 1}, {L: 2, N: 1}, {L: 1, N: 1}}, alternating(4096)} {
		if !Good(l) {
			t.Errorf("not Good(%v)", l)
		}
	}
}

func TestTotal(t *testing.T) {
	for _, l := range lists() {
		want := 0
		for _, r := range l {
			if r.N > 0 {
				want += r.N
			}
		}
		if got := Total(l); got != want {
			t.Errorf("Total(%v) = %d", l, got)
		}
	}
}

func TestTotalEdges(t *testing.T) {
	for _, c := range []struct {
		l    list
		want int
	}{
		{nil, 0},
		{list{{N: 4095}}, 4095},
		{list{{N: 4096}}, 4096},
		{list{{N: 4097}}, 4097},
		{list{{N: 5000}}, 4097},
		{list{{N: 4096}, {N: 1}}, 4097},
		{list{{N: 4095}, {N: 1}}, 4096},
		{list{{N: 4096}, {N: 0}, {N: -1}}, 4096},
		{list{{N: 4097}, {N: -1}}, 4097},
		{list{{N: -5}, {N: 7}}, 7},
		{list{{N: math.MaxInt}}, 4097},
		{list{{N: math.MaxInt}, {N: math.MaxInt}, {N: 2}}, 4097},
		{list{{N: math.MaxInt}, {N: math.MaxInt}, {N: 3}}, 4097},
		{list{{N: 3}, {N: math.MaxInt}}, 4097},
		{list{{N: math.MinInt}}, 0},
		{list{{N: math.MinInt}, {N: math.MinInt}}, 0},
		{list{{N: math.MinInt}, {N: 2}}, 2},
		{list{{N: 2}, {N: math.MinInt}, {N: math.MaxInt}}, 4097},
		{alternating(4096), 4096},
		{alternating(4098), 4097},
	} {
		if got := Total(c.l); got != c.want {
			t.Errorf("Total(%v) = %d, not %d", c.l, got, c.want)
		}
	}
}

// P3.2

func TestNormal(t *testing.T) {
	for _, l := range lists() {
		wantError := api.OK
		if slices.ContainsFunc(l, func(r api.Run) bool { return r.N < 0 }) {
			wantError = api.ErrArg
		}
		got, e := Normal(l)
		expect(t, "Normal", got, e, bytesOf(l), wantError)
	}
}

func TestNormalEdges(t *testing.T) {
	for _, c := range []struct {
		l, want list
		e       api.Errno
	}{
		{nil, nil, api.OK},
		{list{{L: 1, N: 0}, {L: 2, N: 0}}, nil, api.OK},
		{list{{L: 1, N: 2}, {L: 1, N: 3}, {L: 4, N: 0}, {L: 2, N: 1}}, list{{L: 1, N: 5}, {L: 2, N: 1}}, api.OK},
		{list{{L: 1, N: 2}, {L: 4, N: 0}, {L: 1, N: 3}}, list{{L: 1, N: 5}}, api.OK},
		{list{{L: 1, N: 1}, {L: 2, N: 0}, {L: 3, N: 0}, {L: 2, N: 0}, {L: 1, N: 1}}, list{{L: 1, N: 2}}, api.OK},
		{list{{L: 1, N: 4096}}, list{{L: 1, N: 4096}}, api.OK},
		{list{{L: 1, N: 4000}, {L: 1, N: 96}}, list{{L: 1, N: 4096}}, api.OK},
		{list{{L: 1, N: 4000}, {L: 1, N: 97}}, nil, api.ErrBig},
		{list{{L: 1, N: 4097}}, nil, api.ErrBig},
		{list{{L: 1, N: math.MaxInt}, {L: 1, N: math.MaxInt}, {L: 1, N: 2}}, nil, api.ErrBig},
		{list{{L: 1, N: -1}}, nil, api.ErrArg},
		{list{{L: 1, N: math.MinInt}}, nil, api.ErrArg},
		{list{{L: 1, N: 4097}, {L: 1, N: -1}}, nil, api.ErrArg}, // the one that is named first
		{list{{L: 1, N: -1}, {L: 1, N: 4097}}, nil, api.ErrArg},
	} {
		got, e := Normal(c.l)
		expect(t, "Normal", got, e, bytesOf(c.want), c.e)
	}
}

// P3.3

func TestAt(t *testing.T) {
	for _, l := range lists() {
		var labels []api.Label
		if isGood(l) {
			labels = bytesOf(l)
		}
		for at := -2; at <= len(labels)+2; at++ {
			got, is := At(l, at)
			if inside := 0 <= at && at < len(labels); is != inside || inside && got != labels[at] || !inside && got != 0 {
				t.Errorf("At(%v, %d) = %d, %v", l, at, got, is)
			}
		}
	}
}

func TestAtEdges(t *testing.T) {
	full := list{{L: 1, N: 4000}, {L: 2, N: 96}}
	for _, c := range []struct {
		at   int
		want api.Label
		is   bool
	}{{0, 1, true}, {3999, 1, true}, {4000, 2, true}, {4095, 2, true}, {4096, 0, false}, {-1, 0, false}, {math.MaxInt, 0, false}, {math.MinInt, 0, false}} {
		if got, is := At(full, c.at); got != c.want || is != c.is {
			t.Errorf("At(.., %d) = %d, %v", c.at, got, is)
		}
	}
	for _, l := range bads() {
		if got, is := At(l, 0); is || got != 0 {
			t.Errorf("At(%v, 0) = %d, %v", l, got, is)
		}
	}
	if got, is := At(list{{L: 0, N: 1}}, 0); !is || got != 0 {
		t.Errorf("a byte of label 0: %d, %v", got, is)
	}
}

func TestAll(t *testing.T) {
	for _, c := range []struct {
		l    list
		want api.Label
	}{
		{nil, 0},
		{list{{L: 0, N: 3}}, 0},
		{list{{L: 1, N: 5}, {L: 2, N: 1}}, 3},
		{list{{L: 1, N: 1}, {L: 1, N: 1}}, 1},
		{list{{L: 5, N: 1}, {L: 3, N: 1}}, 7},
		{list{{L: 1, N: 0}}, 0},
		{list{{L: 1, N: -1}, {L: 2, N: 1}}, 2},
		{list{{L: 1, N: 1}, {L: 4, N: math.MinInt}, {L: 2, N: 0}}, 1},
		{list{{L: 1, N: math.MaxInt}, {L: 1 << 63, N: math.MaxInt}}, 1 | 1<<63},
		{list{{L: math.MaxUint64, N: 1}, {L: 0, N: 1}}, math.MaxUint64},
	} {
		if got := All(c.l); got != c.want {
			t.Errorf("All(%v) = %d, not %d", c.l, got, c.want)
		}
	}
}

// P3.4

func TestSlice(t *testing.T) {
	for _, l := range goods() {
		labels := bytesOf(l)
		for from := -2; from <= len(labels)+2; from++ {
			for to := -2; to <= len(labels)+2; to++ {
				got, e := Slice(l, from, to)
				if from < 0 || from > to || to > len(labels) {
					expect(t, "Slice", got, e, nil, api.ErrArg)
				} else {
					expect(t, "Slice", got, e, labels[from:to], api.OK)
				}
			}
		}
	}
}

func TestSliceEdges(t *testing.T) {
	l := list{{L: 1, N: 4000}, {L: 2, N: 96}}
	for _, c := range []struct {
		from, to int
		want     list
		e        api.Errno
	}{
		{0, 4096, l, api.OK},
		{0, 4097, nil, api.ErrArg},
		{3999, 4001, list{{L: 1, N: 1}, {L: 2, N: 1}}, api.OK},
		{4096, 4096, nil, api.OK},
		{4097, 4097, nil, api.ErrArg},
		{math.MinInt, math.MaxInt, nil, api.ErrArg},
		{0, math.MaxInt, nil, api.ErrArg},
		{math.MinInt, 0, nil, api.ErrArg},
		{math.MaxInt, math.MinInt, nil, api.ErrArg},
	} {
		got, e := Slice(l, c.from, c.to)
		expect(t, "Slice", got, e, bytesOf(c.want), c.e)
	}
	for _, bad := range bads() {
		got, e := Slice(bad, 0, 0)
		expect(t, "Slice of a bad list", got, e, nil, api.ErrArg)
	}
}

func TestCat(t *testing.T) {
	for _, a := range goods() {
		for _, b := range goods() {
			got, e := Cat(a, b)
			expect(t, "Cat", got, e, append(bytesOf(a), bytesOf(b)...), api.OK)
		}
	}
}

func TestCatEdges(t *testing.T) {
	for _, c := range []struct {
		a, b, want list
		e          api.Errno
	}{
		{list{{L: 1, N: 4000}}, list{{L: 1, N: 96}}, list{{L: 1, N: 4096}}, api.OK},
		{list{{L: 1, N: 4000}}, list{{L: 2, N: 97}}, nil, api.ErrBig},
		{list{{L: 1, N: 4000}}, list{{L: 1, N: 97}}, nil, api.ErrBig},
		{nil, list{{L: 1, N: 4096}}, list{{L: 1, N: 4096}}, api.OK},
		{list{{L: 1, N: 4096}}, nil, list{{L: 1, N: 4096}}, api.OK},
		{list{{L: 1, N: 4096}}, list{{L: 2, N: 4096}}, nil, api.ErrBig},
		{list{{L: 1, N: 4096}}, list{{L: 2, N: 0}}, nil, api.ErrArg},
		{list{{L: 1, N: 4096}}, list{{L: 2, N: 1}, {L: 2, N: 1}}, nil, api.ErrArg}, // and too big, but that is named later
	} {
		got, e := Cat(c.a, c.b)
		expect(t, "Cat", got, e, bytesOf(c.want), c.e)
	}
	for _, bad := range bads() {
		for _, ok := range []list{nil, {{L: 5, N: 2}}, {{L: 5, N: 4096}}} {
			got, e := Cat(bad, ok)
			expect(t, "Cat of a bad list", got, e, nil, api.ErrArg)
			got, e = Cat(ok, bad)
			expect(t, "Cat with a bad list", got, e, nil, api.ErrArg)
		}
	}
}

// P3.5

func TestSplice(t *testing.T) {
	others := []list{nil, {{L: 0, N: 1}}, {{L: 1, N: 2}}, {{L: 3, N: 1}, {L: 0, N: 2}}, {{L: 1, N: 1}, {L: 3, N: 1}, {L: 1, N: 1}}}
	for _, l := range goods() {
		labels := bytesOf(l)
		for from := -2; from <= len(labels)+2; from++ {
			for to := -2; to <= len(labels)+2; to++ {
				for _, m := range others {
					got, e := Splice(l, from, to, m)
					if from < 0 || from > to || to > len(labels) {
						expect(t, "Splice", got, e, nil, api.ErrArg)
					} else {
						expect(t, "Splice", got, e, slices.Concat(labels[:from], bytesOf(m), labels[to:]), api.OK)
					}
				}
			}
		}
	}
}

func TestSpliceEdges(t *testing.T) {
	full := list{{L: 1, N: 4000}, {L: 2, N: 96}}
	for _, c := range []struct {
		l        list
		from, to int
		m, want  list
		e        api.Errno
	}{
		{list{{L: 1, N: 4}}, 1, 3, list{{L: 2, N: 1}}, list{{L: 1, N: 1}, {L: 2, N: 1}, {L: 1, N: 1}}, api.OK},
		{list{{L: 1, N: 4}}, 1, 3, nil, list{{L: 1, N: 2}}, api.OK},
		{list{{L: 1, N: 2}, {L: 2, N: 1}, {L: 1, N: 2}}, 2, 3, nil, list{{L: 1, N: 4}}, api.OK},
		{list{{L: 1, N: 2}, {L: 2, N: 1}, {L: 1, N: 2}}, 2, 3, list{{L: 1, N: 7}}, list{{L: 1, N: 11}}, api.OK},
		{full, 0, 4096, full, full, api.OK},
		{full, 10, 11, list{{L: 4, N: 1}}, list{{L: 1, N: 10}, {L: 4, N: 1}, {L: 1, N: 3989}, {L: 2, N: 96}}, api.OK},
		{full, 10, 11, list{{L: 4, N: 2}}, nil, api.ErrBig},
		{full, 4096, 4096, list{{L: 4, N: 1}}, nil, api.ErrBig},
		{full, 4096, 4096, nil, full, api.OK},
		{full, 0, 4095, list{{L: 4, N: 4096}}, nil, api.ErrBig},
		{nil, 0, 0, list{{L: 4, N: 4096}}, list{{L: 4, N: 4096}}, api.OK},
		{full, 4096, 4097, list{{L: 4, N: 4096}}, nil, api.ErrArg}, // and too big, but that is named later
		{full, 0, 0, list{{L: 4, N: 4096}, {L: 4, N: 0}}, nil, api.ErrArg},
		{full, math.MinInt, math.MaxInt, nil, nil, api.ErrArg},
		{full, math.MaxInt, math.MinInt, nil, nil, api.ErrArg},
	} {
		got, e := Splice(c.l, c.from, c.to, c.m)
		expect(t, "Splice", got, e, bytesOf(c.want), c.e)
	}
	for _, bad := range bads() {
		got, e := Splice(bad, 0, 0, nil)
		expect(t, "Splice of a bad list", got, e, nil, api.ErrArg)
		got, e = Splice(full, 0, 4096, bad)
		expect(t, "Splice with a bad list", got, e, nil, api.ErrArg)
	}
}

func TestRaise(t *testing.T) {
	for _, l := range goods() {
		labels := bytesOf(l)
		for from := -2; from <= len(labels)+2; from++ {
			for to := -2; to <= len(labels)+2; to++ {
				for _, by := range []api.Label{0, 1, 2, 3, 1 << 63} {
					got, e := Raise(l, from, to, by)
					if from < 0 || from > to || to > len(labels) {
						expect(t, "Raise", got, e, nil, api.ErrArg)
						continue
					}
					want := slices.Clone(labels)
					for i := from; i < to; i++ {
						want[i] |= by
					}
					expect(t, "Raise", got, e, want, api.OK)
				}
			}
		}
	}
}

func TestRaiseEdges(t *testing.T) {
	for _, c := range []struct {
		l        list
		from, to int
		by       api.Label
		want     list
		e        api.Errno
	}{
		{list{{L: 1, N: 4}}, 1, 2, 2, list{{L: 1, N: 1}, {L: 3, N: 1}, {L: 1, N: 2}}, api.OK},
		{list{{L: 1, N: 2}, {L: 2, N: 2}}, 0, 4, 3, list{{L: 3, N: 4}}, api.OK},
		{list{{L: 1, N: 2}, {L: 3, N: 2}}, 1, 2, 2, list{{L: 1, N: 1}, {L: 3, N: 3}}, api.OK},
		{list{{L: 3, N: 2}, {L: 1, N: 2}}, 2, 3, 2, list{{L: 3, N: 3}, {L: 1, N: 1}}, api.OK},
		{list{{L: 1, N: 4}}, 2, 2, 2, list{{L: 1, N: 4}}, api.OK},
		{alternating(4096), 0, 4096, 1, list{{L: 1, N: 4096}}, api.OK},
		{nil, 0, 0, 1, nil, api.OK},
		{nil, 0, 1, 1, nil, api.ErrArg},
		{list{{L: 1, N: 4}}, 1, 5, 2, nil, api.ErrArg},
		{list{{L: 1, N: 4}}, 3, 2, 2, nil, api.ErrArg},
		{list{{L: 1, N: 4}}, -1, 2, 2, nil, api.ErrArg},
		{list{{L: 1, N: 4}}, math.MinInt, math.MaxInt, 2, nil, api.ErrArg},
	} {
		got, e := Raise(c.l, c.from, c.to, c.by)
		expect(t, "Raise", got, e, bytesOf(c.want), c.e)
	}
	for _, bad := range bads() {
		got, e := Raise(bad, 0, 0, 0)
		expect(t, "Raise of a bad list", got, e, nil, api.ErrArg)
	}
}

// P3.6

func TestPartsTogether(t *testing.T) {
	for _, l := range append(goods(), alternating(4096), list{{L: 1, N: 4000}, {L: 2, N: 96}}) {
		for at := 0; at <= Total(l); at += 1 + Total(l)/37 {
			a, e1 := Slice(l, 0, at)
			b, e2 := Slice(l, at, Total(l))
			whole, e3 := Cat(a, b)
			if e1 != api.OK || e2 != api.OK || e3 != api.OK || !slices.Equal(whole, l) {
				t.Errorf("%v cut at %d: %v (%d), %v (%d): %v (%d)", l, at, a, e1, b, e2, whole, e3)
			}
		}
	}
}

// P3.7

func TestSpliceUndone(t *testing.T) {
	full := list{{L: 1, N: 4000}, {L: 2, N: 96}}
	for _, l := range append(goods(), full) {
		for _, m := range []list{nil, {{L: 1, N: 1}}, {{L: 3, N: 1}, {L: 0, N: 2}}, full} {
			for from := 0; from <= Total(l); from += 1 + Total(l)/23 {
				for to := from; to <= Total(l); to += 1 + Total(l)/29 {
					old, _ := Slice(l, from, to)
					changed, e := Splice(l, from, to, m)
					if e == api.ErrBig {
						continue
					}
					back, e := Splice(changed, from, from+Total(m), old)
					if e != api.OK || !slices.Equal(back, l) {
						t.Errorf("%v, %d..%d replaced by %v and back: %v (%d)", l, from, to, m, back, e)
					}
				}
			}
		}
	}
}

// R6

func TestMemory(t *testing.T) {
	l, m := list{{L: 1, N: 2}, {L: 2, N: 3}, {L: 4, N: 1}}, list{{L: 8, N: 2}}
	calls := []func() (list, api.Errno){
		func() (list, api.Errno) { return Normal(l) },
		func() (list, api.Errno) { return Slice(l, 0, 6) },
		func() (list, api.Errno) { return Cat(l, m) },
		func() (list, api.Errno) { return Cat(l, nil) },
		func() (list, api.Errno) { return Cat(nil, l) },
		func() (list, api.Errno) { return Splice(l, 1, 3, m) },
		func() (list, api.Errno) { return Splice(l, 0, 6, m) },
		func() (list, api.Errno) { return Splice(l, 2, 2, nil) },
		func() (list, api.Errno) { return Raise(l, 1, 4, 16) },
		func() (list, api.Errno) { return Raise(l, 1, 1, 16) },
	}
	for i, call := range calls {
		first, e := call()
		if e != api.OK {
			t.Fatalf("call %d: %d", i, e)
		}
		want := slices.Clone(first)
		reach := first[:cap(first)] // an append to the result may write there too
		for k := range reach {
			reach[k] = api.Run{L: 99, N: 99}
		}
		again, _ := call()
		if !slices.Equal(again, want) {
			t.Errorf("call %d: its result shares memory: %v, then %v", i, want, again)
		}
		if !slices.Equal(l, list{{L: 1, N: 2}, {L: 2, N: 3}, {L: 4, N: 1}}) || !slices.Equal(m, list{{L: 8, N: 2}}) {
			t.Fatalf("call %d: the arguments are now %v, %v", i, l, m)
		}
	}
}
