package label

import (
	"math"
	"slices"
	"sort"
	"strconv"
	"strings"
	"testing"

	"bureau/api"
)

const everything = api.Label(math.MaxUint64)

// samples: labels that reach each bit, alone and beside others.
func samples() []api.Label {
	l := []api.Label{0, 1, 2, 3, 5, 6, 7, 1<<9 | 1<<10, 1<<31 | 1<<32, 1<<62 | 1<<63, 1 | 1<<5 | 1<<63, 0xAAAAAAAAAAAAAAAA, 0x5555555555555555, everything}
	for k := range 64 {
		l = append(l, 1<<k, everything^1<<k)
	}
	return l
}

// has is the chapter's own words: category k is in the label if bit k is set.
func has(l api.Label, k int) bool { return uint64(l)>>k&1 == 1 }

// P1.1

func TestJoinAndMeetByCategory(t *testing.T) {
	for _, a := range samples() {
		for _, b := range samples() {
			j, m := Join(a, b), Meet(a, b)
			for k := range 64 {
				if has(j, k) != (has(a, k) || has(b, k)) {
					t.Fatalf("Join(%x, %x) = %x: category %d", a, b, j, k)
				}
				if has(m, k) != (has(a, k) && has(b, k)) {
					t.Fatalf("Meet(%x, %x) = %x: category %d", a, b, m, k)
				}
			}
		}
	}
}

func TestBelowByCategory(t *testing.T) {
	for _, a := range samples() {
		for _, b := range samples() {
			want := true
			for k := range 64 {
				want = want && (!has(a, k) || has(b, k))
			}
			if Below(a, b) != want {
				t.Fatalf("Below(%x, %x) = %v", a, b, !want)
			}
		}
	}
}

func TestBelowEdges(t *testing.T) {
	for _, a := range samples() {
		if !Below(a, a) || !Below(0, a) || !Below(a, everything) {
			t.Errorf("%x is not below itself or the label of all categories, or 0 is not below it", a)
		}
		if a != 0 && Below(a, 0) {
			t.Errorf("%x is below 0", a)
		}
	}
	if Below(1, 6) || !Below(2, 6) || Below(6, 2) {
		t.Error("the order of 1, 2 and 6")
	}
}

func TestJoinAll(t *testing.T) {
	for _, c := range []struct {
		l    []api.Label
		want api.Label
	}{
		{nil, 0},
		{[]api.Label{}, 0},
		{[]api.Label{0}, 0},
		{[]api.Label{6}, 6},
		{[]api.Label{1, 4, 1}, 5},
		{[]api.Label{1 << 63, 0, 2}, 1<<63 | 2},
		{[]api.Label{4, 2, 1}, 7},
		{samples(), everything},
	} {
		given := slices.Clone(c.l)
		if x := JoinAll(given); x != c.want {
			t.Errorf("JoinAll(%x) = %x", c.l, x)
		}
		if !slices.Equal(given, c.l) {
			t.Errorf("JoinAll changed its list: %x", given)
		}
	}
}

// P1.2

func TestOf(t *testing.T) {
	for _, c := range []struct {
		cats []int
		want api.Label
	}{
		{nil, 0},
		{[]int{}, 0},
		{[]int{0}, 1},
		{[]int{63}, 1 << 63},
		{[]int{5, 0, 63, 5}, 1 | 1<<5 | 1<<63},
		{[]int{7, 7, 7}, 1 << 7},
		{[]int{32, 31}, 1<<31 | 1<<32},
	} {
		given := slices.Clone(c.cats)
		if l, e := Of(given); l != c.want || e != api.OK {
			t.Errorf("Of(%v) = %x, %d", c.cats, l, e)
		}
		if !slices.Equal(given, c.cats) {
			t.Errorf("Of changed its list: %v", given)
		}
	}
}

func TestOfRefuses(t *testing.T) {
	for _, c := range []int{-1, 64, 65, 127, 128, -64, 256, 1 << 32, math.MaxInt, math.MinInt} {
		for _, l := range [][]int{{c}, {1, c}, {c, 1}, {0, c, 63}} {
			if x, e := Of(l); x != 0 || e != api.ErrArg {
				t.Errorf("Of(%v) = %x, %d", l, x, e)
			}
		}
	}
}

func TestCats(t *testing.T) {
	if l := Cats(0); len(l) != 0 {
		t.Errorf("Cats(0) = %v", l)
	}
	if l := Cats(1 | 1<<5 | 1<<63); !slices.Equal(l, []int{0, 5, 63}) {
		t.Errorf("Cats of 0, 5 and 63 = %v", l)
	}
	for _, l := range samples() {
		var want []int
		for k := range 64 {
			if has(l, k) {
				want = append(want, k)
			}
		}
		if x := Cats(l); !slices.Equal(x, want) {
			t.Errorf("Cats(%x) = %v", l, x)
		}
	}
}

func TestCatsAnswersNewMemory(t *testing.T) {
	a := Cats(7)
	a[0] = 99
	if b := Cats(7); !slices.Equal(b, []int{0, 1, 2}) {
		t.Errorf("a second Cats(7) = %v", b)
	}
}

// P1.3

func TestPrint(t *testing.T) {
	for l, want := range map[api.Label]string{
		0:                   "-",
		1:                   "0",
		2:                   "1",
		1 << 9:              "9",
		1 << 10:             "10",
		1 << 63:             "63",
		1<<9 | 1<<10:        "9.10",
		1 | 1<<5 | 1<<63:    "0.5.63",
		1<<20 | 1<<2 | 1<<3: "2.3.20",
	} {
		if s := Print(l); s != want {
			t.Errorf("Print(%x) = %q", l, s)
		}
	}
	for _, l := range samples() {
		if s := Print(l); s != spell(l) {
			t.Errorf("Print(%x) = %q", l, s)
		}
	}
}

// spell is the printed form, made in another way than the program's.
func spell(l api.Label) string {
	var parts []string
	for k := range 64 {
		if has(l, k) {
			parts = append(parts, strconv.Itoa(k))
		}
	}
	if parts == nil {
		return "-"
	}
	return strings.Join(parts, ".")
}

func TestParse(t *testing.T) {
	for s, want := range map[string]api.Label{
		"-":                   0,
		"0":                   1,
		"9":                   1 << 9,
		"10":                  1 << 10,
		"63":                  1 << 63,
		"0.5.63":              1 | 1<<5 | 1<<63,
		"9.10":                1<<9 | 1<<10,
		"0.1.2.3":             15,
		"60.61.62":            1<<60 | 1<<61 | 1<<62,
		spell(everything):     everything,
		spell(everything ^ 1): everything ^ 1,
	} {
		if l, e := Parse(s); l != want || e != api.OK {
			t.Errorf("Parse(%q) = %x, %d", s, l, e)
		}
	}
}

func TestParseRefuses(t *testing.T) {
	for _, s := range []string{
		"", " ", ".", "..", "--", "-.1", "1.-", "-0", "-1", "+1", "0-", "5-", "-5",
		"05", "00", "000", "0.05", "5.0", "5.5", "0.0", "10.9", "1.10.11.2",
		"64", "65", "99", "100", "640", "063", "0.64", "0.100",
		"5.", ".5", "1..2", "1.2.", "1,2", "1 2", " 1", "1 ", "1. 2", "1\n", "1\x00",
		"a", "0x1", "1a", "1.a", "1e1", "\xff", "1.\xc3", "\u0661", "1\u00b7" + "2",
		"18446744073709551616", "18446744073709551617", "4294967296", "256", "0.256",
		spell(everything) + ".", spell(everything) + ".63", spell(everything) + ".64", spell(everything) + ".0",
		strings.Repeat("0.", 100000), strings.Repeat("1", 100000), strings.Repeat(".", 100000),
	} {
		if l, e := Parse(s); l != 0 || e != api.ErrForm {
			t.Errorf("Parse(%.40q) = %x, %d", s, l, e)
		}
	}
}

func TestParseRefusesOtherSpellingsOfNumbers(t *testing.T) {
	var l []string
	for n := range 64 {
		l = append(l, "0"+strconv.Itoa(n), "00"+strconv.Itoa(n), "+"+strconv.Itoa(n))
	}
	for n := 64; n < 1200; n++ {
		l = append(l, strconv.Itoa(n))
	}
	for _, n := range l {
		for _, s := range []string{n, "0." + n, n + ".63"} {
			if x, e := Parse(s); x != 0 || e != api.ErrForm {
				t.Errorf("Parse(%q) = %x, %d", s, x, e)
			}
		}
	}
}

// TestParseOfAllShortStrings holds Parse against the chapter's definition: the label whose printed form is the string, if there is one.
func TestParseOfAllShortStrings(t *testing.T) {
	forms := map[string]api.Label{"-": 0}
	for a := range 64 {
		for b := range 64 {
			l := api.Label(1)<<a | api.Label(1)<<b
			forms[spell(l)] = l
		}
	}
	for _, l := range []api.Label{1<<0 | 1<<1 | 1<<4, 1<<0 | 1<<1 | 1<<6, 1<<0 | 1<<4 | 1<<6, 1<<1 | 1<<4 | 1<<6} {
		forms[spell(l)] = l
	}
	var walk func(s string)
	walk = func(s string) {
		l, e := Parse(s)
		want, ok := forms[s]
		if ok && (l != want || e != api.OK) || !ok && (l != 0 || e != api.ErrForm) {
			t.Errorf("Parse(%q) = %x, %d", s, l, e)
		}
		if len(s) == 5 {
			return
		}
		for _, c := range []string{"-", ".", "0", "1", "4", "6", "/", ":"} {
			walk(s + c)
		}
	}
	walk("")
}

// P1.4

func TestPlace(t *testing.T) {
	for _, c := range []struct {
		list []api.Label
		l    api.Label
		want int
	}{
		{nil, 0, -1},
		{[]api.Label{}, 5, -1},
		{[]api.Label{3, 1, 3}, 3, 0},
		{[]api.Label{3, 1, 3}, 1, 1},
		{[]api.Label{1, 3, 3}, 3, 1},
		{[]api.Label{1, 2, 3}, 3, 2},
		{[]api.Label{3, 1, 3}, 2, -1},
		{[]api.Label{3, 1, 3}, 0, -1},
		{[]api.Label{3, 0}, 0, 1},
		{[]api.Label{7}, 1, -1},
		{[]api.Label{1}, 7, -1},
		{[]api.Label{1, 1<<32 | 1, 1 << 63}, 1<<32 | 1, 1},
		{[]api.Label{1, 1<<32 | 1, 1 << 63}, 1 << 63, 2},
	} {
		given := slices.Clone(c.list)
		if i := Place(given, c.l); i != c.want {
			t.Errorf("Place(%x, %x) = %d", c.list, c.l, i)
		}
		if !slices.Equal(given, c.list) {
			t.Errorf("Place changed its list: %x", given)
		}
	}
}

// P1.5

func TestCommutative(t *testing.T) {
	for _, a := range samples() {
		for _, b := range samples() {
			if Join(a, b) != Join(b, a) || Meet(a, b) != Meet(b, a) {
				t.Fatalf("%x and %x", a, b)
			}
		}
	}
}

func TestAssociative(t *testing.T) {
	for _, a := range samples() {
		for _, b := range samples() {
			for _, c := range samples() {
				if Join(a, Join(b, c)) != Join(Join(a, b), c) || Meet(a, Meet(b, c)) != Meet(Meet(a, b), c) {
					t.Fatalf("%x, %x and %x", a, b, c)
				}
			}
		}
	}
}

func TestBelowAgreesWithJoinAndMeet(t *testing.T) {
	for _, a := range samples() {
		for _, b := range samples() {
			if Below(a, b) != (Join(a, b) == b) || Below(a, b) != (Meet(a, b) == a) {
				t.Fatalf("%x and %x", a, b)
			}
		}
	}
}

func TestJoinIsLeastAndMeetIsGreatest(t *testing.T) {
	for _, a := range samples() {
		for _, b := range samples() {
			j, m := Join(a, b), Meet(a, b)
			if !Below(a, j) || !Below(b, j) || !Below(m, a) || !Below(m, b) {
				t.Fatalf("Join or Meet of %x and %x is no bound", a, b)
			}
			for _, c := range samples() {
				if Below(a, c) && Below(b, c) && !Below(j, c) {
					t.Fatalf("Join(%x, %x) = %x is not below %x", a, b, j, c)
				}
				if Below(c, a) && Below(c, b) && !Below(c, m) {
					t.Fatalf("%x is not below Meet(%x, %x) = %x", c, a, b, m)
				}
			}
		}
	}
}

// P1.6

func TestParseOfPrint(t *testing.T) {
	for _, l := range scattered() {
		if x, e := Parse(Print(l)); x != l || e != api.OK {
			t.Errorf("Parse(Print(%x)) = %x, %d", l, x, e)
		}
	}
}

func TestOfCats(t *testing.T) {
	for _, l := range scattered() {
		cats := Cats(l)
		if !sort.IntsAreSorted(cats) {
			t.Errorf("Cats(%x) = %v", l, cats)
		}
		if x, e := Of(cats); x != l || e != api.OK {
			t.Errorf("Of(Cats(%x)) = %x, %d", l, x, e)
		}
	}
}

// scattered: the samples, all labels of small numbers, and some that a fixed rule spreads over all bits.
func scattered() []api.Label {
	l := samples()
	for i := range api.Label(1 << 12) {
		l = append(l, i, i<<52, i*0x9E3779B97F4A7C15)
	}
	return l
}
