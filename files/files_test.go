package files

import (
	"fmt"
	"reflect"
	"slices"
	"strings"
	"testing"
)

// The types and calls are just those of the chapter (R11).
var (
	_ = struct {
		Name  string
		Lines []string
	}(File{})

	_ func(l ...File) *Files               = New
	_ func(f *Files, name string) []string = (*Files).Lines
	_ func(f *Files, name string) bool     = (*Files).Has
	_ func(f *Files, name string)          = (*Files).Clear
	_ func(f *Files, name, text string)    = (*Files).Add
	_ func(f *Files) []File                = (*Files).List
	_ func(f *Files) *Files                = (*Files).Copy
	_ func(text string) []string           = Cut
)

// wantList fails if the files of a table aren't these.
func wantList(t *testing.T, about string, f *Files, want string) {
	t.Helper()
	if got := fmt.Sprintf("%q", f.List()); got != want {
		t.Errorf("P17.1: %s: %.300s, not %.300s", about, got, want)
	}
}

// The chapter's example.
func TestExample(t *testing.T) {
	f := New()
	f.Add("f", "a\nb")
	wantList(t, "Add of a and b with a byte A between", f, `[{"f" ["a" "b"]}]`)
}

func TestCut(t *testing.T) {
	for _, c := range []struct {
		text string
		want []string
	}{
		{"", []string{""}},
		{"a", []string{"a"}},
		{"a\nb", []string{"a", "b"}},
		{"\n", []string{"", ""}},
		{"\na", []string{"", "a"}},
		{"a\n", []string{"a", ""}},
		{"a\n\nb\n", []string{"a", "", "b", ""}},
		{"a\r\nb\x00\xff\v\u2028c", []string{"a\r", "b\x00\xff\v\u2028c"}},
	} {
		if got := Cut(c.text); !slices.Equal(got, c.want) {
			t.Errorf("P17.1: Cut(%q): %q, not %q", c.text, got, c.want)
		}
	}
}

func TestNew(t *testing.T) {
	for _, c := range []struct {
		about string
		files []File
		want  string
	}{
		{"no files", nil, `[]`},
		{"without lines", []File{{Name: "f"}, {Name: "e", Lines: []string{}}}, `[{"e" []} {"f" []}]`},
		{"an empty line", []File{{"f", []string{""}}}, `[{"f" [""]}]`},
		{"an empty name", []File{{"", []string{"a"}}}, `[{"" ["a"]}]`},
		{"lines that are cut", []File{{"f", []string{"a\nb", "c", "\n"}}}, `[{"f" ["a" "b" "c" "" ""]}]`},
		{"a name isn't cut", []File{{"f\ng", []string{"a"}}}, `[{"f\ng" ["a"]}]`},
		{"of one name the last one", []File{{"f", []string{"a"}}, {"g", []string{"b"}}, {"f", []string{"c", "d"}}}, `[{"f" ["c" "d"]} {"g" ["b"]}]`},
		{"the last one has no lines", []File{{"f", []string{"a"}}, {Name: "f"}}, `[{"f" []}]`},
		{"names byte by byte", []File{{Name: "b"}, {Name: "\xff"}, {Name: "aa"}, {Name: "é"}, {Name: "a"}, {Name: "B"}, {Name: ""}, {Name: "a\x00"}}, `[{"" []} {"B" []} {"a" []} {"a\x00" []} {"aa" []} {"b" []} {"é" []} {"\xff" []}]`},
	} {
		wantList(t, "New: "+c.about, New(c.files...), c.want)
	}
}

// A file that isn't there has no lines, and asking doesn't make it.
func TestNotThere(t *testing.T) {
	f := New(File{Name: "f", Lines: []string{"a"}})
	for _, name := range []string{"", "g", "F", "f ", "ff", "f\n"} {
		if f.Has(name) || len(f.Lines(name)) != 0 || f.Has(name) {
			t.Errorf("P17.1: %q is there: %q", name, f.Lines(name))
		}
	}
	wantList(t, "asked", f, `[{"f" ["a"]}]`)
}

func TestClear(t *testing.T) {
	f := New(File{Name: "f", Lines: []string{"a", "b"}}, File{Name: "g", Lines: []string{"c"}})
	f.Clear("f")
	f.Clear("h")
	wantList(t, "Clear", f, `[{"f" []} {"g" ["c"]} {"h" []}]`)
	if !f.Has("f") || !f.Has("h") || len(f.Lines("f")) != 0 {
		t.Error("P17.1: a file that was cleared isn't there, or has lines")
	}
	f.Add("f", "d")
	wantList(t, "Add behind Clear", f, `[{"f" ["d"]} {"g" ["c"]} {"h" []}]`)
}

func TestAdd(t *testing.T) {
	f := New(File{Name: "f", Lines: []string{"a"}}, File{Name: "e"})
	for _, text := range []string{"b", "c\nd", "", "\n"} {
		f.Add("f", text)
	}
	f.Add("e", "")
	f.Add("g", "x\n")
	wantList(t, "Add", f, `[{"e" [""]} {"f" ["a" "b" "c" "d" "" "" ""]} {"g" ["x" ""]}]`)
	if got := f.Lines("f"); !slices.Equal(got, []string{"a", "b", "c", "d", "", "", ""}) || !f.Has("g") {
		t.Errorf("P17.1: Lines behind Add: %q", got)
	}
}

// A copy is the same, and goes on by itself; so does a copy of a copy.
func TestCopy(t *testing.T) {
	f := New(File{Name: "f", Lines: []string{"a"}}, File{Name: "g"})
	f.Add("f", "b")
	c := f.Copy()
	d := c.Copy()
	wantList(t, "Copy", c, `[{"f" ["a" "b"]} {"g" []}]`)
	f.Add("f", "of f")
	c.Add("f", "of c")
	c.Clear("g")
	c.Add("h", "h")
	d.Clear("f")
	d.Add("g", "of d")
	wantList(t, "what was copied", f, `[{"f" ["a" "b" "of f"]} {"g" []}]`)
	wantList(t, "the copy", c, `[{"f" ["a" "b" "of c"]} {"g" []} {"h" ["h"]}]`)
	wantList(t, "a copy of the copy", d, `[{"f" []} {"g" ["of d"]}]`)
	wantList(t, "a copy of none", New().Copy(), `[]`)
}

// R6: New neither changes nor keeps lists, spare room included.
func TestNewKeepsNothing(t *testing.T) {
	lines := append(make([]string, 0, 9), "a", "b\nc")
	list := append(make([]File, 0, 9), File{"f", lines}, File{"g", lines[:1]}, File{"f", lines})
	f := New(list...)
	f.Add("f", "d")
	f.Add("g", "e")
	f.Clear("h")
	if want := []string{"a", "b\nc", ""}; !slices.Equal(lines[:3], want) || list[:4][3].Lines != nil || !reflect.DeepEqual(list[1], File{"g", []string{"a"}}) {
		t.Errorf("R6: New changed what it was handed: %q %q", lines[:3], list[:4])
	}
	lines[0] = "?"
	list[1] = File{"?", []string{"?"}}
	wantList(t, "R6: behind a change of what New was handed", f, `[{"f" ["a" "b" "c" "d"]} {"g" ["a" "e"]} {"h" []}]`)
}

// spoil changes lines, their spare room included.
func spoil(lines []string) {
	lines = lines[:cap(lines)]
	for i := range lines {
		lines[i] = "?"
	}
}

// R6: no answer shares memory with the table, or with another answer.
func TestAnswersAreNew(t *testing.T) {
	f := New(File{Name: "f", Lines: []string{"a", "b", "c"}}, File{Name: "g"})
	f.Add("f", "d") // there may be spare room now
	f.Clear("h")
	const want = `[{"f" ["a" "b" "c" "d"]} {"g" []} {"h" []}]`
	other, list := f.Lines("f"), f.List()
	copied := f.Copy()
	for _, name := range []string{"f", "g", "h", "i"} {
		spoil(f.Lines(name))
		spoil(copied.Lines(name))
	}
	spoiled := f.List()
	for i := range spoiled {
		spoil(spoiled[i].Lines)
	}
	clear(spoiled)
	spoil(Cut("a\nb"))
	if got := fmt.Sprintf("%q", list); got != want || !slices.Equal(other, []string{"a", "b", "c", "d"}) {
		t.Errorf("R6: an answer changes with another one: %s %q", got, other)
	}
	wantList(t, "R6: behind a change of its answers", f, want)
	wantList(t, "R6: a copy, behind a change of answers", copied, want)
	f.Add("f", "e")
	copied.Add("f", "g")
	if got := f.Lines("f"); !slices.Equal(got, []string{"a", "b", "c", "d", "e"}) {
		t.Errorf("R6: a table shares spare room with its copy: %q", got)
	}
	if got := list[0].Lines; !slices.Equal(got, []string{"a", "b", "c", "d"}) {
		t.Errorf("R6: a list changes with its table: %q", got)
	}
}

// The lines of an answer that has none may be added to, without a change.
func TestNoLinesAreNobodys(t *testing.T) {
	f := New(File{Name: "f", Lines: make([]string, 0, 9)}, File{Name: "g", Lines: []string{"a", "b"}})
	f.Clear("g")
	for _, name := range []string{"f", "g", "h"} {
		_ = append(f.Lines(name), "?", "?", "?")
	}
	f.Add("f", "x")
	f.Add("g", "y")
	wantList(t, "R6: behind lines that were put to none", f, `[{"f" ["x"]} {"g" ["y"]}]`)
}

// R8: tables are each by itself; what one has, no other one tells.
func TestTablesApart(t *testing.T) {
	f, g := New(), New()
	f.Add("f", "a")
	wantList(t, "R8: a table beside another one", g, `[]`)
	wantList(t, "R8: a new table", New(), `[]`)
}

// R9: nothing is promised of a table's zero value, but it doesn't panic: it is an empty table.
func TestZeroValue(t *testing.T) {
	var f, g Files
	if f.Has("f") || len(f.Lines("f")) != 0 || len(f.List()) != 0 || len(f.Copy().List()) != 0 {
		t.Error("R9: the zero value has files")
	}
	f.Add("f", "a")
	g.Clear("g")
	wantList(t, "R9: Add to the zero value", &f, `[{"f" ["a"]}]`)
	wantList(t, "R9: Clear in the zero value", &g, `[{"g" []}]`)
}

// P7: long lists of calls, long texts and many files come to an end.
func TestLong(t *testing.T) {
	const many = 100000
	f := New()
	for i := range many {
		f.Add("one", "x")
		f.Add(fmt.Sprintf("%06d", many-i), "y")
	}
	f.Add("one", strings.Repeat("\n", many-1))
	if got := len(f.Lines("one")); got != 2*many {
		t.Errorf("P17.1: %d lines, not %d", got, 2*many)
	}
	list := f.Copy().List()
	if len(list) != many+1 || list[0].Name != "000001" || list[many-1].Name != fmt.Sprint(many) || list[many].Name != "one" {
		t.Errorf("P17.1: List of many files: %d of them", len(list))
	}
}
