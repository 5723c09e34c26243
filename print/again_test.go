package print

import (
	"fmt"
	"slices"
	"strings"
	"testing"

	"placket/addr"
	"placket/api"
	"placket/cmd"
	"placket/octet"
	"placket/script"
	"placket/show"
	"placket/tree"
)

// What stands for some bytes, in each of the three places in which not all bytes stand for themselves.
var (
	inLines = strings.NewReplacer("\\", "\\\\", "\n", "\\\n")
	inParts = strings.NewReplacer("\\", "\\\\", "/", "\\/", "&", "\\&", "\n", "\\n")
	inLists = strings.NewReplacer("\\", "\\\\", "/", "\\/", "\n", "\\n")
)

// addressAgain is a second reading of what the chapter says of an address as a text.
func addressAgain(a addr.Address) string {
	return []string{"", fmt.Sprint(a.Line), "$", "/" + show.Ere(a.Tree) + "/", fmt.Sprint("+", a.Line)}[a.Kind]
}

// commandAgain is the same of a command.
func commandAgain(c cmd.Command) string {
	guard := addressAgain(c.Guard.A)
	if c.Guard.B.Kind != addr.None {
		guard += "," + addressAgain(c.Guard.B)
	}
	if c.Guard.Not {
		guard += "!"
	}
	return fmt.Sprintf("%s%s%s\n", guard, []byte{c.Name}, takenAgain(c))
}

// takenAgain is the same of what a command takes.
func takenAgain(c cmd.Command) string {
	switch {
	case strings.IndexByte(":btTrw", c.Name) >= 0 && c.Arg != "":
		return " " + c.Arg
	case strings.IndexByte("aic", c.Name) >= 0:
		return "\\\n" + inLines.Replace(c.Arg[:len(c.Arg)-1])
	case c.Name == 's':
		return subAgain(c.Sub)
	case c.Name == 'y':
		from, to := []byte{}, []byte{}
		for i := range 256 {
			if int(c.Table[i]) != i {
				from, to = append(from, byte(i)), append(to, c.Table[i])
			}
		}
		return fmt.Sprintf("/%s/%s/", inLists.Replace(string(from)), inLists.Replace(string(to)))
	}
	return ""
}

// subAgain is the same of what an s takes.
func subAgain(s cmd.Sub) string {
	parts := ""
	for _, part := range s.Parts {
		switch {
		case part.Group < 0:
			parts += inParts.Replace(part.Text)
		case part.Group == 0:
			parts += "&"
		default:
			parts += fmt.Sprintf("\\%d", part.Group)
		}
	}
	flags := ""
	if s.Nth > 0 {
		flags = fmt.Sprint(s.Nth)
	}
	if s.All {
		flags += "g"
	}
	if s.Print {
		flags += "p"
	}
	if s.File != "" {
		flags += "w " + s.File
	}
	return fmt.Sprintf("/%s/%s/%s", show.Ere(s.Tree), parts, flags)
}

// scriptAgain is the same of a script.
func scriptAgain(s script.Script) string {
	text := ""
	if s.Quiet {
		text = "#n\n"
	}
	for _, c := range s.Commands {
		text += commandAgain(c)
	}
	return text
}

// backsOf is the words of a tree's Backs, from the front.
func backsOf(n tree.Node) []string {
	var parts []tree.Node
	switch n := n.(type) {
	case tree.Back:
		return []string{fmt.Sprintf("\\%d", n.Number)}
	case tree.Cat:
		parts = n.Parts
	case tree.Alt:
		parts = n.Parts
	case tree.Rep:
		parts = []tree.Node{n.Of}
	case tree.Group:
		parts = []tree.Node{n.Of}
	}
	var words []string
	for _, part := range parts {
		words = append(words, backsOf(part)...)
	}
	return words
}

// wordsOf is the words of what has no other form than an extension: of a script, command by command.
func wordsOf(s script.Script) []string {
	var words []string
	for _, c := range s.Commands {
		words = append(words, backsOf(c.Guard.A.Tree)...)
		words = append(words, backsOf(c.Guard.B.Tree)...)
		if c.Guard.B.Kind == addr.Plus {
			words = append(words, "+")
		}
		if strings.IndexByte("QTz", c.Name) >= 0 {
			words = append(words, string([]byte{c.Name}))
		}
		words = append(words, backsOf(c.Sub.Tree)...)
	}
	return words
}

// tooLong tells whether a script's text, or a regex's text in it, is longer than may be. (As the regex is read, no / in it has a backslash.)
func tooLong(s script.Script) bool {
	regexes := []string{}
	for _, c := range s.Commands {
		for _, n := range []tree.Node{c.Guard.A.Tree, c.Guard.B.Tree, c.Sub.Tree} {
			regexes = append(regexes, strings.ReplaceAll(show.Ere(n), `\/`, "/"))
		}
	}
	isLong := func(regex string) bool { return len(regex) > 250 }
	return len(scriptAgain(s)) > 4000 || slices.ContainsFunc(regexes, isLong)
}

// wantSame holds Script of a script against a second reading, and what is read of the text against the script.
func wantSame(t *testing.T, x script.Script) {
	t.Helper()
	text := Script(x)
	if again := scriptAgain(x); text != again {
		t.Fatalf("P15.1: Script of %.300s: %.300q, want %.300q", fmt.Sprintf("%+v", x), text, again)
	}
	commands := ""
	for _, c := range x.Commands {
		commands += Command(c)
	}
	if strings.TrimPrefix(text, "#n\n") != commands {
		t.Fatalf("P15.1: Script %.300q, and the commands %.300q", text, commands)
	}
	y, marks, place, e := script.Parse(text, true)
	if e == api.ErrLong && tooLong(x) {
		return
	}
	if e != api.OK || !script.Same(x, y) {
		t.Fatalf("P15.2: %.300q is read as %.300s, error %d at %d, want %.300s", text, fmt.Sprintf("%+v", y), e, place, fmt.Sprintf("%+v", x))
	}
	words := []string{}
	for _, mark := range marks {
		words = append(words, mark.Word)
	}
	if !slices.Equal(words, wordsOf(x)) {
		t.Fatalf("P15.2: %.300q has the marks %v, want %v", text, marks, wordsOf(x))
	}
	if again := Script(y); again != text {
		t.Fatalf("P15.2: %.300q is printed as %.300q", text, again)
	}
}

// wantSameIfRead holds it of a text, if it is a script: and tells whether it is.
func wantSameIfRead(t *testing.T, s string, extended bool) bool {
	t.Helper()
	x, _, _, e := script.Parse(s, extended)
	if e == api.OK {
		wantSame(t, x)
	}
	return e == api.OK
}

// P15.2: a script's text has marks of what has no other form, and none but these.
func TestMarks(t *testing.T) {
	for s, want := range map[string]string{
		"Q": "[{0 Q}]", "p;T;z": "[{2 T} {4 z}]", "1,+2p": "[{2 +}]", `/\(a\)\1/,/\(b\)\(c\)\2/p`: `[{4 \1} {15 \2}]`, `s/\(a\)\1*\1/\1/`: `[{5 \1} {8 \1}]`, `/\(a\)\1/,+3T`: `[{4 \1} {8 +} {10 T}]`,
		`/\t\w\W\s\S\+/p`: "[]", "a x": "[]", "i\\\nx": "[]", "{p}": "[]", `/a\+b\?\|c/p`: "[]", `s/\t\w\W\s\S\|a/\t/w f`: "[]", "/x/,/y/!{s/a/b/}": "[]", "#n\ny/a/b/;b": "[]",
	} {
		x := read(t, s, false)
		_, marks, _, e := script.Parse(Script(x), true)
		if got := fmt.Sprint(marks); e != api.OK || got != want {
			t.Errorf("P15.2: %q, printed as %q, has the marks %s, want %s", s, Script(x), got, want)
		}
	}
}

// P15.2: sets between delimiters are read as they were: of all pairs of bytes, all spans, and all others, with more behind them.
func TestSetsBetweenDelimiters(t *testing.T) {
	slash, opened := tree.One{Set: octet.Of('/')}, tree.One{Set: octet.Of('[')}
	for from := range 256 {
		for to := from; to < 256; to++ {
			pair, span := octet.Of(byte(from), byte(to)), octet.Span(byte(from), byte(to))
			var commands []cmd.Command
			for _, set := range []octet.Set{pair, span, pair.Not(), span.Not()} {
				n := tree.Join(tree.One{Set: set}, slash, opened, tree.One{Set: set})
				commands = append(commands, cmd.Command{Guard: addr.Guard{A: addr.Address{Kind: addr.Regex, Tree: n}}, Name: 's', Sub: cmd.Sub{Tree: n}})
			}
			wantSame(t, script.Script{Commands: commands})
		}
	}
}

// P15.2: the same of three bytes that mean something in a bracket, or between delimiters.
func TestSetsOfSigns(t *testing.T) {
	const signs = "[]^-/\\.:=,\n\t \va\x00\xff"
	for i := range signs {
		for j := range signs {
			for k := range signs {
				set := octet.Of(signs[i], signs[j], signs[k])
				n := tree.Join(tree.One{Set: set}, tree.One{Set: set.Not()}, tree.One{Set: octet.Of(signs[j])}, tree.One{Set: octet.Of('/')})
				wantSame(t, script.Script{Commands: []cmd.Command{{Name: 's', Sub: cmd.Sub{Tree: n, Parts: []cmd.Part{{Group: -1, Text: signs[i:i+1] + signs[j:j+1] + signs[k:k+1]}}}}}})
			}
		}
	}
}

// P15.2: a regex's text may become too long; then the script's is read as far as that.
func TestTooLongRegexes(t *testing.T) {
	for n := 1; n <= 240; n++ {
		for _, part := range []string{"-", "[^x]", "[ab]", "/", "a*", "[+-/]"} {
			regex := strings.Repeat(part, min(n, 250/len(part)))
			x := read(t, `\,`+regex+`,p`, false)
			wantSame(t, x)
			_, _, place, e := script.Parse(Script(x), true)
			if long := tooLong(x); (e == api.ErrLong) != long || long && place != 1 {
				t.Fatalf("P15.2: Script of %q: error %d at %d", regex, e, place)
			}
		}
	}
}

// P15.2: so may the script's; the commands' texts are as long as the words say.
func TestTooLongScripts(t *testing.T) {
	for n := range 120 {
		text := "a\\\n" + strings.Repeat("\\\\", 1900) + strings.Repeat("x", n)
		if !wantSameIfRead(t, text, false) {
			t.Fatalf("%d bytes are no script", len(text))
		}
		wantSameIfRead(t, strings.Repeat(";", n)+strings.Repeat("s,a,/,;", 99), false)
		wantSameIfRead(t, "s,a,"+strings.Repeat("/", 1900+n)+",", true)
	}
	x := read(t, "a\\\n"+strings.Repeat("x", 3997), true)
	if _, _, place, e := script.Parse(Script(x), true); e != api.ErrLong || place != 4000 {
		t.Errorf("P15.2: the text of %d bytes: error %d at %d", len(Script(x)), e, place)
	}
	wantSame(t, read(t, "a\\\n"+strings.Repeat("x", 3996), true))
}

// numbersFrom makes numbers below others, the same ones each time.
func numbersFrom(x uint32) func(below int) int {
	return func(below int) int {
		x ^= x << 13
		x ^= x >> 17
		x ^= x << 5
		return int(x % uint32(below))
	}
}

// P15.1 and P15.2: the same of scripts that are put together of parts.
func TestScriptsOfParts(t *testing.T) {
	guards := []string{"", "", "1", "$", "/a/", `\,[/]\,*,`, "1,3", "/a/ , +2", `/\(a\)\1/,$`, `/\w\t/,/[^]/]\{2\}/`, "!", "2!", `/x\|y\+/,\x\xax ! `}
	commands := []string{
		"p", "d", "=", "q", "Q", "z", "x", "N", "{p}", "{", "}", ":x", ":y", "b x", "b", "t y", "T x", "a hi\\\\", "a\\\n x\\\n\\\ny\\", "i\\\n", "i\\\n\\\n\\", "c /&\\x", "c\\\nz", "r f ", "w g/h;", "s/a/b/", `s,\(/\)\(b*\)\1,\2/&\1\,\n,g`, "s/[\\n]*$/\\\n\\\\&\\&/2pw o ", `s|x\||y|3g`, `s/^a{1}\{1,\}/\//p`, "y///", "y/ab/ba/", `y,/\n\\,\\a/,`, "y;\\;a;bc;", "k",
	}
	next := numbersFrom(2463534242)
	scripts := 0
	for range 60000 {
		var text strings.Builder
		if next(4) == 0 {
			text.WriteString("#n\n")
		}
		for range next(8) {
			text.WriteString(guards[next(len(guards))*next(2)] + commands[next(len(commands))] + "\n")
		}
		if wantSameIfRead(t, text.String(), next(3) == 0) {
			scripts++
		}
	}
	if scripts < 6000 {
		t.Errorf("%d of the texts are scripts", scripts)
	}
}

// bytesOf is so many of some signs.
func bytesOf(next func(int) int, signs string, n int) string {
	s := make([]byte, n)
	for i := range s {
		s[i] = signs[next(len(signs))]
	}
	return string(s)
}

// P15.1 and P15.2: the same of regexes, replacements, lists, texts and names of any bytes.
func TestScriptsOfAnyBytes(t *testing.T) {
	next := numbersFrom(88172645)
	part := func(most int) string {
		return bytesOf(next, "ab/,\\\\[]()*+?{}|^$.&-:=012nwtS \t\x00\xff", next(most+1))
	}
	for name, shape := range map[string]func() string{
		"/": func() string { return "/" + part(12) + "/,\\," + part(6) + ",p" },
		"s": func() string { return "s," + part(12) + "," + part(8) + "," + bytesOf(next, "gp2", next(2)) },
		"y": func() string { return "y/" + part(4) + "/" + part(4) + "/" },
		"a": func() string { return "a " + part(10) },
		"i": func() string { return "i\\\n" + part(6) + "\\\n" + part(6) },
		"r": func() string { return "r " + part(10) },
		":": func() string { return ":" + part(6) },
	} {
		next = numbersFrom(88172645)
		scripts := 0
		for range 60000 {
			if wantSameIfRead(t, shape(), next(2) == 0) {
				scripts++
			}
		}
		if scripts < 600 {
			t.Errorf("%d of the texts of the kind %s are scripts", scripts, name)
		}
	}
}
