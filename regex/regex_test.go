package regex

import (
	"regexp"
	"strconv"
	"strings"
	"testing"

	"placket/api"
	"placket/octet"
)

func isWord(b byte) bool {
	return 'a' <= b && b <= 'z' || 'A' <= b && b <= 'Z' || '0' <= b && b <= '9' || b == '_'
}

func isSpace(b byte) bool { return 9 <= b && b <= 0xd || b == 0x20 }

// escapedAgain tells whether a byte is in the set of another one behind a backslash; false at last, if that is no atom.
func escapedAgain(of, b byte) (has, ok bool) {
	switch of {
	case 'n':
		return b == 10, true
	case 't':
		return b == 9, true
	case 'w':
		return isWord(b), true
	case 'W':
		return !isWord(b), true
	case 's':
		return isSpace(b), true
	case 'S':
		return !isSpace(b), true
	}
	return b == of, strings.IndexByte("!\"#$%&'()*+,-./:;<=>?@[\\]^_`{|}~", of) >= 0
}

// P4.1, P5.1: what each byte behind a backslash stands for, and which are extensions.
func TestEscaped(t *testing.T) {
	for i := range 256 {
		of := byte(i)
		var want octet.Set
		ok := false
		for j := range 256 {
			has, atom := escapedAgain(of, byte(j))
			ok = atom
			if atom && has {
				want = want.Or(octet.Of(byte(j)))
			}
		}
		set, extension, told := Escaped(of)
		if told != ok || set != want || extension != (strings.IndexByte("twWsS", of) >= 0) {
			t.Errorf("P4.1, P5.1: Escaped(%q): %v, %t, %t", of, set.Spans(), extension, told)
		}
	}
}

// wantInterval holds the bounds at the beginning of a text, ahead of each closer, whatever stands behind that.
func wantInterval(t *testing.T, bounds string, least, most int) {
	t.Helper()
	for _, closer := range []string{"}", `\}`} {
		for _, behind := range []string{"", "a", "3", ",", closer, "{2}"} {
			lo, hi, length, ok := Interval(bounds+closer+behind, closer)
			if !ok || lo != least || hi != most || length != len(bounds)+len(closer) {
				t.Errorf("P4.1, P5.1: Interval(%q, %q): %d, %d, %d, %t", bounds+closer+behind, closer, lo, hi, length, ok)
			}
		}
	}
}

// wantNoInterval holds that a text begins with no bounds and closer; in it the closer is written } .
func wantNoInterval(t *testing.T, text string) {
	t.Helper()
	for _, closer := range []string{"}", `\}`} {
		s := strings.ReplaceAll(text, "}", closer)
		least, most, length, ok := Interval(s, closer)
		if ok || least != 0 || most != 0 || length != 0 {
			t.Errorf("P4.1, P5.1: Interval(%q, %q): %d, %d, %d, %t", s, closer, least, most, length, ok)
		}
	}
}

// P4.1, P5.1: bounds of 1 to 3 digits each, at most MaxBound, the first at most the second.
func TestIntervals(t *testing.T) {
	for m := range 1001 {
		s := strconv.Itoa(m)
		if m > api.MaxBound {
			wantNoInterval(t, s+"}")
			wantNoInterval(t, s+",}")
			wantNoInterval(t, "0,"+s+"}")
			continue
		}
		wantInterval(t, s, m, m)
		wantInterval(t, s+",", m, -1)
		wantInterval(t, s+","+s, m, m)
		wantInterval(t, "0,"+s, 0, m)
		wantInterval(t, s+",255", m, 255)
		wantNoInterval(t, strconv.Itoa(m+1)+","+s+"}")
	}
	wantInterval(t, "000,007", 0, 7)
	wantInterval(t, "010", 10, 10)
}

// P4.1, P5.1: what is no interval.
func TestNoIntervals(t *testing.T) {
	for _, s := range []string{
		"", "}", ",}", ",2}", "2", "2,", "2,3", "a}", "2a}", "2,a}", " 2}", "2 }", "2, 3}", "2,,}", "2,3,}", "2,3,4}", "-1}", "+1}", "1.}",
		"0001}", "1,0001}", "0001,}", "1,0000}", "2\n}", "٣}", "²}", "\xff}", "2\xff}", "2\x00}", "18446744073709551617}", "2,18446744073709551618}",
	} {
		wantNoInterval(t, s)
	}
	for _, s := range []string{`2}`, `2\`, `2,}`, `2,3}`, `2\\}`, `2,\,}`} {
		if _, _, _, ok := Interval(s, `\}`); ok {
			t.Errorf(`P4.1: Interval(%q, "\}")`, s)
		}
	}
	for _, s := range []string{`2\}`, `2,\}`, `2,3\}`} {
		if _, _, _, ok := Interval(s, "}"); ok {
			t.Errorf(`P5.1: Interval(%q, "}")`, s)
		}
	}
}

var shape = regexp.MustCompile(`^([0-9]{1,3})(?:(,)([0-9]{0,3}))?\}`)

// intervalAgain is a second reading of Interval ahead of a } .
func intervalAgain(s string) (least, most, length int, ok bool) {
	m := shape.FindStringSubmatch(s)
	if m == nil {
		return 0, 0, 0, false
	}
	least, _ = strconv.Atoi(m[1])
	most = least
	switch {
	case m[3] != "":
		most, _ = strconv.Atoi(m[3])
	case m[2] != "":
		most = -1
	}
	if least > 255 || most > 255 || most >= 0 && most < least {
		return 0, 0, 0, false
	}
	return least, most, len(m[0]), true
}

// P4.1, P5.1, P7: of all texts of up to seven of the bytes that matter the call answers as a second reading does.
func TestAllShortIntervals(t *testing.T) {
	texts := []string{""}
	for range 7 {
		var longer []string
		for _, s := range texts {
			for _, part := range []string{"0", "2", "5", ",", "}"} {
				longer = append(longer, s+part)
			}
		}
		for _, s := range longer {
			least, most, length, ok := Interval(s, "}")
			lo, hi, all, interval := intervalAgain(s)
			if least != lo || most != hi || length != all || ok != interval {
				t.Fatalf("P4.1, P5.1: Interval(%q): %d, %d, %d, %t", s, least, most, length, ok)
			}
		}
		texts = longer
	}
}
