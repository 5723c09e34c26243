package cmd

import (
	"strings"
	"testing"

	"placket/api"
)

// tableFrom is the table that makes of each byte of a list that at the same place of another one.
func tableFrom(from, to string) string {
	var table strings.Builder
	for i := range 256 {
		b := byte(i)
		if place := strings.IndexByte(from, b); place >= 0 {
			b = to[place]
		}
		table.WriteByte(b)
	}
	return table.String()
}

// wantTable holds a y without an address, whatever of what can end it stands behind.
func wantTable(t *testing.T, s, from, to string) {
	t.Helper()
	c := Command{Name: 'y', Table: tableFrom(from, to)}
	for _, back := range []string{"", ";", "\n", "#", ";}", "\np"} {
		wantEach(t, s+back, right(c, len(s)))
		wantEach(t, s+" \t"+back, right(c, len(s)+2))
	}
	wantEach(t, s+"}", right(c, len(s), mark(len(s), "}")))
	wantEach(t, s+" }", right(c, len(s)+1, mark(len(s)+1, "}")))
	for _, back := range []string{"g", "p", "2", "/", "w f", "\\", "y/a/b/", "{"} {
		wantEach(t, s+back, wrong(len(s), api.ErrFlag))
		wantEach(t, s+"\t "+back, wrong(len(s)+2, api.ErrFlag))
	}
}

// P13.1: two lists, and the table that they make.
func TestTables(t *testing.T) {
	wantTable(t, "y/ab/ba/", "ab", "ba")
	wantTable(t, "y///", "", "")
	wantTable(t, "y/a/a/", "a", "a")
	wantTable(t, "y/abc/xxx/", "abc", "xxx")
	wantTable(t, "y/abc/bca/", "abc", "bca")
	wantTable(t, "y,a\\,\\n,d\\\\x,", "a,\n", "d\\x")
	wantTable(t, "y/\\n/ /", "\n", " ")
	wantTable(t, "y/ /\\n/", " ", "\n")
	wantTable(t, "y/\\\\/\\//", "\\", "/")
	wantTable(t, "y/\\/\\\\/ab/", "/\\", "ab")
	wantTable(t, "y/\\\\n/ab/", "\\n", "ab")
	wantTable(t, "y/&.*[/^$]-/", "&.*[", "^$]-")
	wantTable(t, "y/\xff\x00/\x00\xff/", "\xff\x00", "\x00\xff")
	wantTable(t, "y/é/ab/", "é", "ab")
	wantTable(t, "y;a;\\;;", "a", ";")
	wantTable(t, "ynan\\nn", "a", "n")
	wantTable(t, "yn\\\\\\nnabn", "\\n", "ab")
	wantTable(t, "y}a}b}", "a", "b")
	wantTable(t, "y a b ", "a", "b")
	wantTable(t, "y[a[b[", "a", "b")
	wantTable(t, "y/[/]/", "[", "]")
	wantEach(t, "1,/a/!y/a/b/", right(guarded(guardOf("1,/a/!"), Command{At: 6, Name: 'y', Table: tableFrom("a", "b")}), 12))
	// All bytes that there are, each with the one behind it.
	var from, written, to, writtenTo strings.Builder
	for i := range 256 {
		from.WriteByte(byte(i))
		to.WriteByte(byte(i + 1))
	}
	replace := strings.NewReplacer("\n", "\\n", "\\", "\\\\", "/", "\\/")
	replace.WriteString(&written, from.String())
	replace.WriteString(&writtenTo, to.String())
	s := "y/" + written.String() + "/" + writtenTo.String() + "/"
	wantTable(t, s, from.String(), to.String())
	wantEach(t, "y/a"+written.String()+"/b"+writtenTo.String()+"/", wrong(4+written.Len(), api.ErrTwice))
}

// P13.1: each byte in a list, by itself and behind a backslash.
func TestEachByteOfLists(t *testing.T) {
	for i := range 256 {
		b := string([]byte{byte(i)})
		switch b {
		case "/", "\\":
			wantTable(t, "y/\\"+b+"/z/", b, "z")
			wantTable(t, "y/z/\\"+b+"/", "z", b)
			continue
		case "\n":
			wantEach(t, "y/"+b+"/z/", wrong(2, api.ErrForm))
			wantEach(t, "y/z/"+b+"/", wrong(4, api.ErrForm))
		default:
			wantTable(t, "y/"+b+"/z/", b, "z")
			wantTable(t, "y/z/"+b+"/", "z", b)
		}
		if b == "n" {
			wantTable(t, "y/\\n/z/", "\n", "z")
			wantTable(t, "y/z/\\n/", "z", "\n")
			continue
		}
		wantEach(t, "y/\\"+b+"/z/", wrong(5, api.ErrMap))
		wantEach(t, "y/\\"+b+"/zz/", wrong(5, api.ErrMap))
		wantEach(t, "y/z/\\"+b+"/", wrong(4, api.ErrMap))
		wantEach(t, "y/zx/\\"+b+"/", wrong(5, api.ErrMap))
	}
}

// P13.1: what is wrong with the lists: first what doesn't end, or has a byte A that can't stand there; then what is told where the second one begins.
func TestWrongTables(t *testing.T) {
	for e, places := range map[api.Errno]map[string]int{
		api.ErrEnd:   {"y/": 2, "y/a": 3, "y/a/": 4, "y/a/b": 5, "y/a\\": 4, "y/a\\/": 5, "y/a/b\\": 6, "y/a/b\\/": 7, "y/aa/b": 6, "y//": 3, "y/a/\\": 5, "y,a/b/": 6},
		api.ErrForm:  {"y/a\n/b/": 3, "y/a/\nb/": 4, "y/a/b\n": 5, "y/\n": 2, "y/aa/b\n/": 6, "y/\\\\\n/b/": 4},
		api.ErrMap:   {"y/a/bc/": 4, "y/ab/c/": 5, "y//a/": 3, "y/a//": 4, "y/a\\b/bc/": 6, "y/a\\b/bcd/": 6, "y/ab/\\c/": 5, "y/\\\n/a/": 5, "y/a/\\\n/": 4, "y/\\0/a/": 5, "y/a/\\&/": 4, "y/aa/b/": 5, "y/aa/bbb/": 5, "y/a\\t/bc/": 6, "y/a\\/b/x/": 7, "y/\\aa\\a/xx/": 8, "y/a/bc/p": 4, "y/aa/b/k": 5},
		api.ErrTwice: {"y/aa/bc/": 5, "y/aa/bb/": 5, "y/aba/xyz/": 6, "y/\\n\\n/ab/": 7, "y/\\\\\\\\/ab/": 7, "y/\\/\\//ab/": 7, "y,\\,\\,,ab,": 7, "y/aa/bc/k": 5, "y/n\\nn/abc/": 7},
	} {
		for s, place := range places {
			wantEach(t, s, wrong(place, e))
			wantEach(t, "1,2!"+s, wrong(place+4, e))
		}
	}
}

// P13.1: a list's own errors, of what listOf is given.
func TestListOf(t *testing.T) {
	for _, s := range []string{"\\", "a\\", "\\\\\\", "\\n\\"} {
		if _, ok := listOf(s); ok {
			t.Errorf("P13.1: listOf(%q) is one", s)
		}
	}
}
