package files

import (
	"fmt"
	"strings"
	"testing"
)

// A table again: of each name the calls that told of it, put down as texts; what stands there is read out of these each time.
type table struct{ told []told }

// told is a call: of Clear, or of a name that New was handed again, fresh; else lines that came behind the others.
type told struct {
	name  string
	fresh bool
	text  string
}

// newAgain is New again: lines that hold a byte A are more than one, and so are texts with bytes A between.
func newAgain(l []File) *table {
	f := &table{}
	for _, file := range l {
		f.told = append(f.told, told{name: file.Name, fresh: true})
		for _, line := range file.Lines {
			f.told = append(f.told, told{name: file.Name, text: line})
		}
	}
	return f
}

// text is a file's lines, each with a byte A behind it; and whether the file is there.
func (f *table) text(name string) (string, bool) {
	text, there := "", false
	for _, c := range f.told {
		switch {
		case c.name != name:
		case c.fresh:
			text, there = "", true
		default:
			text, there = text+c.text+"\n", true
		}
	}
	return text, there
}

// same fails if a table's answers aren't those of the other one, for each of some names.
func same(t *testing.T, about string, f *Files, want *table, names []string) {
	t.Helper()
	var list strings.Builder
	for _, name := range names {
		text, there := want.text(name)
		if got := closed(f.Lines(name)); got != text || f.Has(name) != there {
			t.Errorf("P17.1: %.300s: of %q: %.100q, %t, not %.100q, %t", about, name, got, f.Has(name), text, there)
		}
		if there {
			fmt.Fprintf(&list, "%q: %q\n", name, text)
		}
	}
	got := ""
	for _, file := range f.List() {
		got += fmt.Sprintf("%q: %q\n", file.Name, closed(file.Lines))
	}
	if got != list.String() {
		t.Errorf("P17.1: %.300s: List: %.200s, not %.200s", about, got, list.String())
	}
}

// closed is lines as one text, each with a byte A behind it; of a line that has a byte A itself it is marked, so that it is like none.
func closed(lines []string) string {
	text := ""
	for _, line := range lines {
		if strings.Contains(line, "\n") {
			text += "(not cut)"
		}
		text += line + "\n"
	}
	return text
}

// Of all short lists of calls, on few names and texts, each answers as the second reading does.
func TestShortCallsAgain(t *testing.T) {
	names := []string{"", "f", "g"} // rising
	type call struct {
		about string
		do    func(f *Files, again *table)
	}
	calls := []call{}
	for _, name := range names[1:] {
		calls = append(calls, call{"Clear " + name, func(f *Files, again *table) {
			f.Clear(name)
			again.told = append(again.told, told{name: name, fresh: true})
		}})
		for _, text := range []string{"", "a", "b\nc", "\n"} {
			calls = append(calls, call{fmt.Sprintf("Add %s %q", name, text), func(f *Files, again *table) {
				f.Add(name, text)
				again.told = append(again.told, told{name: name, text: text})
			}})
		}
	}
	starts := [][]File{nil, {{Name: "f"}}, {{"g", []string{"x\ny", ""}}, {"f", []string{"z"}}}, {{"f", []string{"1"}}, {"f", []string{"2", "\n3"}}}}
	var all func(about string, f *Files, again *table, more int)
	all = func(about string, f *Files, again *table, more int) {
		same(t, about, f, again, names)
		if more == 0 || t.Failed() {
			return
		}
		for _, c := range calls {
			g, next := f.Copy(), &table{append([]told{}, again.told...)}
			c.do(g, next)
			all(about+"; "+c.about, g, next, more-1)
		}
		same(t, about+" (behind what its copies did)", f, again, names)
	}
	for _, start := range starts {
		all(fmt.Sprintf("New %q", start), New(start...), newAgain(start), 3)
	}
}

// numbersFrom makes numbers below others, the same ones each time.
func numbersFrom(x uint32) func(below int) int {
	return func(below int) int {
		x ^= x << 13
		x ^= x >> 17
		x ^= x << 5
		return int(x % uint32(below))
	}
}

// Of long lists of calls, on several tables that are copied now and then, with any bytes, each answers as the second reading does.
func TestLongCallsAgain(t *testing.T) {
	next := numbersFrom(2463534242)
	names := []string{"", "\x00", "\n", "F", "f", "f\n", "ff", "g", "\x80", "é", "\xff"} // rising
	text := func() string {
		b := make([]byte, next(4))
		for i := range b {
			b[i] = []byte{'\n', '\n', 'a', '\r', 0, 255, byte(next(256))}[next(7)]
		}
		return string(b)
	}
	for round := range 300 {
		var start []File
		for range next(5) {
			file := File{Name: names[next(len(names))]}
			for range next(3) {
				file.Lines = append(file.Lines, text())
			}
			start = append(start, file)
		}
		tables, again := []*Files{New(start...)}, []*table{newAgain(start)}
		for range next(40) {
			i, name := next(len(tables)), names[next(len(names))]
			switch next(8) {
			case 0:
				tables = append(tables, tables[i].Copy())
				again = append(again, &table{append([]told{}, again[i].told...)})
			case 1:
				tables[i].Clear(name)
				again[i].told = append(again[i].told, told{name: name, fresh: true})
			default:
				s := text()
				tables[i].Add(name, s)
				again[i].told = append(again[i].told, told{name: name, text: s})
			}
		}
		for i, f := range tables {
			same(t, fmt.Sprintf("round %d, table %d, New %q", round, i, start), f, again[i], names)
		}
	}
}

// Of all short texts Cut's lines are as many as there are bytes A, and one; with bytes A between they are the text.
func TestCutAgain(t *testing.T) {
	texts := []string{""}
	for range 9 {
		var longer []string
		for _, s := range texts {
			lines := Cut(s)
			if len(lines) != strings.Count(s, "\n")+1 || closed(lines) != s+"\n" {
				t.Fatalf("P17.1: Cut(%q): %q", s, lines)
			}
			longer = append(longer, s+"\n", s+"a", s+"\r")
		}
		texts = longer
	}
}
