// Package label is layer 1, security labels as sets of categories: see shared/doc/01-label.md.
package label

import "bureau/api"

// categories is how many categories there are: one for each bit of a label.
const categories = 64

// Join: the categories of either.
func Join(a, b api.Label) api.Label { return a | b }

// Meet: the categories of both.
func Meet(a, b api.Label) api.Label { return a & b }

// Below: is each category of a one of b?
func Below(a, b api.Label) bool { return Meet(a, b) == a }

// JoinAll: the categories of any.
func JoinAll(l []api.Label) api.Label {
	var all api.Label
	for _, x := range l {
		all = Join(all, x)
	}
	return all
}

// Of: the label of categories.
func Of(cats []int) (api.Label, api.Errno) {
	var l api.Label
	for _, c := range cats {
		if c < 0 || c >= categories {
			return 0, api.ErrArg
		}
		l = Join(l, only(c))
	}
	return l, api.OK
}

// Cats: the categories of a label, rising.
func Cats(l api.Label) []int {
	var cats []int
	for c := range categories {
		if Below(only(c), l) {
			cats = append(cats, c)
		}
	}
	return cats
}

// Print: a label as a text.
func Print(l api.Label) string {
	if l == 0 {
		return "-"
	}
	var text []byte
	for _, c := range Cats(l) {
		if len(text) > 0 {
			text = append(text, '.')
		}
		text = appendNumber(text, c)
	}
	return string(text)
}

// Parse: the label that a text tells.
func Parse(s string) (api.Label, api.Errno) {
	if s == "-" {
		return 0, api.OK
	}
	var l api.Label
	least := 0 // printed categories rise, so an earlier one may not come again
	for {
		c, n := leadingNumber(s)
		if n == 0 || c < least {
			return 0, api.ErrForm
		}
		l, least = Join(l, only(c)), c+1
		if n == len(s) {
			return l, api.OK
		}
		if s[n] != '.' {
			return 0, api.ErrForm
		}
		s = s[n+1:]
	}
}

// Place: where a label stands in a list; -1: nowhere.
func Place(list []api.Label, l api.Label) int {
	for i, x := range list {
		if x == l {
			return i
		}
	}
	return -1
}

// only: the label that has one category alone.
func only(c int) api.Label { return 1 << c }

// appendNumber: a text with a category behind it. No category has more than two digits.
func appendNumber(text []byte, c int) []byte {
	if c >= 10 {
		text = append(text, byte('0'+c/10))
	}
	return append(text, byte('0'+c%10))
}

// leadingNumber: the category with which a text begins, and how many digits it has; 0 digits: there is none.
func leadingNumber(s string) (int, int) {
	c, n := 0, 0
	// Two digits are all that a category can have; the caller refuses a third one, as it is no separator.
	for n < len(s) && n < 2 && '0' <= s[n] && s[n] <= '9' {
		c = 10*c + int(s[n]-'0')
		n++
	}
	leadingZero := n == 2 && c < 10
	if leadingZero || c >= categories {
		return 0, 0
	}
	return c, n
}
