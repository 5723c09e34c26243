package delimited

import (
	"reflect"
	"strings"
	"testing"

	"placket/api"
	"placket/bre"
	"placket/ere"
)

// P12.1 and P13.1: a regex's text is what stands up to the delimiter, its tree that of the kind of script, its marks are farther on by where it begins.
func TestRegexes(t *testing.T) {
	for _, c := range []struct {
		s         string
		begin     int
		delimiter byte
		text      string
		place     int
	}{
		{"a/", 0, '/', "a", 2}, {"s,a\\,\\w,b,", 2, ',', "a,\\w", 8}, {"/[/]\\//p", 1, '/', "[/]/", 7}, {"xxa\\S\\tx", 2, 'x', "a\\S\\t", 8}, {"(a)/", 0, '/', "(a)", 4}, {"a\\/\\sb//", 0, '/', "a/\\sb", 7},
	} {
		for _, extended := range []bool{false, true} {
			node, marks, _, _ := bre.Parse(c.text)
			if extended {
				node, marks, _, _ = ere.Parse(c.text)
			}
			for i := range marks {
				marks[i].At += c.begin
			}
			got, place, e := Parse(c.s, c.begin, c.delimiter, extended)
			if e != api.OK || place != c.place || !reflect.DeepEqual(got, Regex{c.text, node, marks}) {
				t.Errorf("P13.1: Parse(%q, %d, %q, %t): %v, %d, %d", c.s, c.begin, c.delimiter, extended, got, place, e)
			}
		}
	}
}

// P12.1 and P13.1: the text's own errors come first, at their places; then one that is empty, and the regex's, where it begins.
func TestWrongRegexes(t *testing.T) {
	for _, c := range []struct {
		s     string
		place int
		e     api.Errno
	}{
		{"/", 1, api.ErrEnd}, {"/a", 2, api.ErrEnd}, {"/\\q", 3, api.ErrEnd}, {"/[/", 3, api.ErrEnd}, {"/\\q\n/", 3, api.ErrForm}, {"/a\\\n/", 3, api.ErrForm}, {"//", 1, api.ErrForm}, {"//a/", 1, api.ErrForm},
		{"/a\\q/", 1, api.ErrForm}, {"/ab[z-a]/", 1, api.ErrRange}, {"/a\\1/", 1, api.ErrBack}, {"/" + strings.Repeat("a", api.MaxRegex+1) + "/", 1, api.ErrLong},
	} {
		for _, extended := range []bool{false, true} {
			got, place, e := Parse(c.s, 1, '/', extended)
			if e != c.e || place != c.place || !reflect.DeepEqual(got, Regex{}) {
				t.Errorf("P13.1: Parse(%.30q, 1, /, %t): %v, %d, %d, want %d, %d", c.s, extended, got, place, e, c.place, c.e)
			}
		}
	}
	for _, at := range []int{-1, 3, -1 << 63, 1<<63 - 1} {
		if got, place, e := Parse("a/", at, '/', false); e != api.ErrRange || place != 0 || !reflect.DeepEqual(got, Regex{}) {
			t.Errorf("P13.1: Parse at %d: %v, %d, %d", at, got, place, e)
		}
	}
}
