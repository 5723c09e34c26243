package print

import (
	"math"
	"strings"
	"testing"

	"placket/addr"
	"placket/api"
	"placket/cmd"
	"placket/octet"
	"placket/script"
	"placket/tree"
)

// The calls are just those of the chapter (R11).
var (
	_ func(a addr.Address) string  = Address
	_ func(c cmd.Command) string   = Command
	_ func(s script.Script) string = Script
)

// both are the two values of an option.
var both = []bool{false, true}

func one(bytes string) tree.Node { return tree.One{Set: octet.Of([]byte(bytes)...)} }

// read is the script of a text that is one.
func read(t *testing.T, s string, extended bool) script.Script {
	t.Helper()
	x, _, _, e := script.Parse(s, extended)
	if e != api.OK {
		t.Fatalf("%q is no script: %d", s, e)
	}
	return x
}

// wantScript holds Script of what is read of a text.
func wantScript(t *testing.T, s string, extended bool, want string) {
	t.Helper()
	x := read(t, s, extended)
	if got := Script(x); got != want {
		t.Errorf("P15.1: Script of %q: %q, want %q", s, got, want)
	}
	wantSame(t, x)
}

// wantEach holds it of scripts of both kinds.
func wantEach(t *testing.T, s, want string) {
	t.Helper()
	for _, extended := range both {
		wantScript(t, s, extended, want)
	}
}

// P15.1: the chapter's example.
func TestExample(t *testing.T) {
	wantScript(t, `s,a\|b,[&],g`, false, "s/a|b/[&]/g\n")
}

// P15.1: addresses of all kinds, of a number below 0 with a - .
func TestAddress(t *testing.T) {
	for _, c := range []struct {
		a    addr.Address
		want string
	}{
		{addr.Address{}, ""},
		{addr.Address{Line: 7, Text: "a", Tree: one("a")}, ""},
		{addr.Address{Kind: -1, Line: 7, Tree: one("a")}, ""},
		{addr.Address{Kind: 5, Line: 7, Tree: one("a")}, ""},
		{addr.Address{Kind: addr.Line, Line: 1}, "1"},
		{addr.Address{Kind: addr.Line, Line: 999999999, Text: "a", Tree: one("a")}, "999999999"},
		{addr.Address{Kind: addr.Line}, "0"},
		{addr.Address{Kind: addr.Line, Line: -12}, "-12"},
		{addr.Address{Kind: addr.Line, Line: math.MaxInt}, "9223372036854775807"},
		{addr.Address{Kind: addr.Line, Line: math.MinInt}, "-9223372036854775808"},
		{addr.Address{Kind: addr.Last}, "$"},
		{addr.Address{Kind: addr.Last, Line: 3, Tree: one("a")}, "$"},
		{addr.Address{Kind: addr.Plus, Line: 3}, "+3"},
		{addr.Address{Kind: addr.Plus}, "+0"},
		{addr.Address{Kind: addr.Plus, Line: -3}, "+-3"},
		{addr.Address{Kind: addr.Regex, Text: "b*", Tree: one("a")}, "/a/"},
		{addr.Address{Kind: addr.Regex, Line: 3, Tree: tree.Rep{Of: one("/"), Min: 1, Max: -1}}, `/\/+/`},
		{addr.Address{Kind: addr.Regex, Tree: one("/\\")}, `/[[./.][.\.]]/`},
		{addr.Address{Kind: addr.Regex, Tree: one("\n")}, `/\n/`},
		{addr.Address{Kind: addr.Regex}, "//"},
		{addr.Address{Kind: addr.Regex, Text: "a", Tree: tree.Empty{}}, "//"},
		{addr.Address{Kind: addr.Regex, Text: "a", Tree: tree.Rep{Of: tree.Start{}}}, "//"},
		{addr.Address{Kind: addr.Regex, Text: "a", Tree: tree.Cat{Parts: []tree.Node{one("a")}}}, "//"},
	} {
		if got := Address(c.a); got != c.want {
			t.Errorf("P15.1: Address of %+v: %q, want %q", c.a, got, c.want)
		}
	}
}

// P15.1: guards: a comma between two addresses, a ! , if it is not.
func TestGuards(t *testing.T) {
	for s, want := range map[string]string{
		"p": "p", "!p": "!p", " ! p": "!p", "1p": "1p", "007p": "7p", "$ p": "$p", "$!p": "$!p", "/a/p": "/a/p", "/a/ ! p": "/a/!p",
		"1,2p": "1,2p", "1 , 2 ! p": "1,2!p", "2,1p": "2,1p", "$,$p": "$,$p", "1,+0p": "1,+0p", "$,+012!p": "$,+12!p", "/a/,+3p": "/a/,+3p", "1,/b/p": "1,/b/p", "/a/\t,\t/b/p": "/a/,/b/p", "/a/,$!p": "/a/,$!p",
		`\,a,p`: "/a/p", `\,a\,b,p`: `/a\,b/p`, `\,/,p`: `/\//p`, `\|a\|b|p`: `/a\|b/p`, `\xa\xbx!p`: "/axb/!p",
	} {
		wantScript(t, s, false, want+"\n")
	}
	wantScript(t, `/a\{1,\}b\?/,\,\(a\|b\)*,{}`, false, "/a+b?/,/(a|b)*/{\n}\n")
	wantScript(t, `\,(a|b){2}$,!p`, true, "/(a|b){2}$/!p\n")
	wantScript(t, `/[]/a]/,/[^/]\//p`, true, "/[[./.][.].]a]/,/[^[./.]]\\//p\n")
}

// P15.1: a guard of any fields has its addresses, with a comma just between two.
func TestGuardsOfAnyFields(t *testing.T) {
	line := addr.Address{Kind: addr.Line, Line: -4}
	for _, c := range []struct {
		guard addr.Guard
		want  string
	}{
		{addr.Guard{A: line, B: line, Not: true}, "-4,-4!p\n"},
		{addr.Guard{B: line}, "-4p\n"},
		{addr.Guard{A: addr.Address{Kind: addr.Regex}, B: addr.Address{Kind: addr.Regex}}, "//,//p\n"},
	} {
		if got := Command(cmd.Command{Guard: c.guard, Name: 'p'}); got != c.want {
			t.Errorf("P15.1: Command of the guard %+v: %q, want %q", c.guard, got, c.want)
		}
	}
}

// P15.1: commands that take nothing are their guard and name.
func TestCommandsThatTakeNothing(t *testing.T) {
	for _, name := range strings.Split("= d D g G h H l n N p P x z q Q", " ") {
		wantEach(t, name, name+"\n")
		wantEach(t, "$ ! "+name+" # x", "$!"+name+"\n")
		c := cmd.Command{At: 9, Name: name[0], Arg: "x", Sub: cmd.Sub{File: "f", Nth: 2}, Table: strings.Repeat("a", 256)}
		if got := Command(c); got != name+"\n" {
			t.Errorf("P15.1: Command of %+v: %q", c, got)
		}
	}
	wantEach(t, "{}", "{\n}\n")
	wantEach(t, "1,2!{p;{d};}", "1,2!{\np\n{\nd\n}\n}\n")
}

// P15.1: : and b, t, T have a blank and the label, if there is one.
func TestLabels(t *testing.T) {
	wantEach(t, ":x", ": x\n")
	wantEach(t, ":  x \t;b x;tx\nT\tx;!Tx", ": x\nb x\nt x\nT x\n!T x\n")
	wantEach(t, "b;t ;T\n/a/b \n# x", "b\nt\nT\n/a/b\n")
	wantEach(t, ":a b}#c", ": a b}#c\n")
	wantEach(t, ":\\a/&\xff;b\\a/&\xff", ": \\a/&\xff\nb \\a/&\xff\n")
	long := strings.Repeat("x", api.MaxLabel)
	wantEach(t, ":"+long+"\nb"+long, ": "+long+"\nb "+long+"\n")
	for _, name := range ":btT" {
		if got := Command(cmd.Command{Name: byte(name)}); got != string(name)+"\n" {
			t.Errorf("P15.1: Command of a %c without a label: %q", name, got)
		}
	}
}

// P15.1: r and w have a blank and the name.
func TestFiles(t *testing.T) {
	wantEach(t, "r  f g ", "r f g\n")
	wantEach(t, "1w\tf;p}", "1w f;p}\n")
	wantEach(t, "r a\\b/&", "r a\\b/&\n")
	for _, name := range "rw" {
		if got := Command(cmd.Command{Name: byte(name)}); got != string(name)+" \n" {
			t.Errorf("P15.1: Command of an %c without a name: %q", name, got)
		}
	}
}

// P15.1: a, i, c have a backslash, a byte A, and the text, each backslash and each byte A of it behind a backslash, but the last byte A.
func TestTexts(t *testing.T) {
	for s, want := range map[string]string{
		" x": "x\n", "x y": "x y\n", "\\\nx": "x\n", "\\\n": "\n", "\\\n\n": "\n", "\\\n  x ": "  x \n", "\\ x": " x\n", "\\\n\\\n": "\\\n\n", "\\\n\\\n\\\n": "\\\n\\\n\n", "\\\na\\\nb": "a\\\nb\n",
		"\\\n\\a\\b\\\\\\\\c": "ab\\\\\\\\c\n", "x\\\\": "x\\\\\n", "\\\n\\\\\\\nx": "\\\\\\\nx\n", "x/&;p}#": "x/&;p}#\n", "\\n": "n\n", "\\\n\x00\xff": "\x00\xff\n", "\\\n#n": "#n\n",
	} {
		for _, name := range []string{"a", "1i", "1,2!c"} {
			wantEach(t, name+s, name+"\\\n"+want)
			wantEach(t, name+s+"\np", name+"\\\n"+want+"p\n")
		}
	}
	for arg, want := range map[string]string{"": "\n", "\n": "\n", "x": "x\n", "x\n": "x\n", "\n\n": "\\\n\n", "\nx": "\\\nx\n", "\\": "\\\\\n", "\\\n": "\\\\\n"} {
		if got := Command(cmd.Command{Name: 'a', Arg: arg}); got != "a\\\n"+want {
			t.Errorf("P15.1: Command of an a of %q: %q", arg, got)
		}
	}
}

// P15.1: an s has its regex's text, its parts, and its flags, in their order.
func TestSubs(t *testing.T) {
	for s, want := range map[string]string{
		"s/a//": "s/a//", "s/a/b/": "s/a/b/", "s,/,/,": `s/\//\//`, "s,a,\\,,": "s/a/,/", "s|a|\\||": "s/a/|/", "s&a&\\&&": "s/a/&/", "s1a1\\11": `s/a/1/`,
		"s/a/&&/": "s/a/&&/", "s/a/\\0/": "s/a/&/", "s/a/\\&\\\\\\//": `s/a/\&\\\//`, "s/a/\\n/": `s/a/\n/`, "s/a/\\\n/": `s/a/\n/`, "s/a/\\\\n/": `s/a/\\n/`, "s/a/\\x\\t/": "s/a/xt/", "s/a/[/": "s/a/[/", "s/a/$^.*/": "s/a/$^.*/", "s/a/;}#/": "s/a/;}#/",
		"s/a/b/3": "s/a/b/3", "s/a/b/012": "s/a/b/12", "s/a/b/g": "s/a/b/g", "s/a/b/p": "s/a/b/p", "s/a/b/pg": "s/a/b/gp", "s/a/b/p3": "s/a/b/3p", "s/a/b/g3": "s/a/b/3g", "s/a/b/pg999999999": "s/a/b/999999999gp",
		"s/a/b/w f": "s/a/b/w f", "s/a/b/w\t f;p ": "s/a/b/w f;p", "s/a/b/g3pw f": "s/a/b/3gpw f", "1,2!s/a/b/ ;": "1,2!s/a/b/",
	} {
		wantEach(t, s, want+"\n")
	}
	wantScript(t, `s/\(a\)\(b\)\{2,\}/\2\11\0\n/`, false, `s/(a)(b){2,}/\2\11&\n/`+"\n")
	wantScript(t, `s/(((((((((a)))))))))/\9\10/`, true, `s/(((((((((a)))))))))/\9\10/`+"\n")
	wantScript(t, `s/\(.\)\1/x/`, false, `s/(.)\1/x/`+"\n")
	wantScript(t, `s,[/,]*\n,[/\,],`, true, `s/[[.,.][./.]]*\n/[\/,]/`+"\n")
}

// P15.1: the same of an s of any fields; of a tree that isn't right nothing stands between the delimiters.
func TestSubsOfAnyFields(t *testing.T) {
	for _, c := range []struct {
		sub  cmd.Sub
		want string
	}{
		{cmd.Sub{}, "s///\n"},
		{cmd.Sub{Text: "b", Tree: one("a"), Nth: -1}, "s/a//-1\n"},
		{cmd.Sub{Text: "a", Tree: tree.Back{Number: 1}, Parts: []cmd.Part{{Group: 1}, {Group: -1, Text: "x/\n"}, {Group: 0}}, All: true, Print: true, File: "f", Nth: 7}, `s//\1x\/\n&/7gpw f` + "\n"},
		{cmd.Sub{Tree: one("a"), Parts: []cmd.Part{{Group: 12}, {Group: -1}, {Group: 1, Text: "x"}, {Group: 0, Text: "y"}}}, `s/a/\12\1&/` + "\n"},
	} {
		if got := Command(cmd.Command{Name: 's', Sub: c.sub}); got != c.want {
			t.Errorf("P15.1: Command of an s of %+v: %q, want %q", c.sub, got, c.want)
		}
	}
}

// P15.1: each byte of a replacement stands for itself.
func TestEachByteOfAReplacement(t *testing.T) {
	for i := range 256 {
		text := string([]byte{'x', byte(i), 'y'})
		want := text
		switch i {
		case '\\', '/', '&':
			want = string([]byte{'x', '\\', byte(i), 'y'})
		case '\n':
			want = `x\ny`
		}
		x := script.Script{Commands: []cmd.Command{{Name: 's', Sub: cmd.Sub{Tree: one("a"), Parts: []cmd.Part{{Group: -1, Text: text}}}}}}
		if got := Script(x); got != "s/a/"+want+"/\n" {
			t.Errorf("P15.1: Script of an s with the part %q: %q", text, got)
		}
		wantSame(t, x)
	}
}

// tableOf is a table of the bytes of one text, which become those of another one.
func tableOf(from, to string) string {
	var table [256]byte
	for i := range 256 {
		table[i] = byte(i)
	}
	for i := range len(from) {
		table[from[i]] = to[i]
	}
	return string(table[:])
}

// P15.1: a y has the bytes that become other ones, rising, and what they become.
func TestTables(t *testing.T) {
	for s, want := range map[string]string{
		"y///": "y///", "y/a/a/": "y///", "y/abc/abc/": "y///", "y/a/b/": "y/a/b/", "y/ba/ab/": "y/ab/ba/", "y/cab/xay/": "y/bc/yx/", `y,/\\\n,\n/\\,`: `y/\n\/\\/\\\n\//`, "y/a\\//\\/b/": `y/\/a/b\//`, "y/&[]*.^$;}#/0123456789/": `y/#$&*.;[]^}/9603471258/`, "y,a,\\,,": "y/a/,/", "1!y/a/\\n/": `1!y/a/\n/`, "y/ \t/xy/": "y/\t /yx/", "y/\xff\x00/ab/": "y/\x00\xff/ba/",
	} {
		wantEach(t, s, want+"\n")
	}
	for _, table := range []string{"", "b", tableOf("a", "b")[:255], tableOf("a", "b") + "\x00", strings.Repeat("a", 257)} {
		if got := Command(cmd.Command{Name: 'y', Table: table}); got != "y///\n" {
			t.Errorf("P15.1: Command of a y with a table of %d bytes: %q", len(table), got)
		}
	}
}

// P15.1 and P15.2: the same of each byte that becomes another one, and of tables that change all bytes.
func TestTablesOfAllBytes(t *testing.T) {
	hidden := func(b byte) string {
		switch b {
		case '\n':
			return `\n`
		case '/', '\\':
			return string([]byte{'\\', b})
		}
		return string([]byte{b})
	}
	all := make([]byte, 256)
	for i := range 256 {
		all[i] = byte(i)
	}
	for by := 1; by < 256; by++ {
		turned := string(all[by:]) + string(all[:by])
		from, to := "", ""
		for i := range 256 {
			from, to = from+hidden(byte(i)), to+hidden(turned[i])
			x := script.Script{Commands: []cmd.Command{{Name: 'y', Table: tableOf(string(all[i:i+1]), turned[i:i+1])}}}
			if got, want := Script(x), "y/"+hidden(byte(i))+"/"+hidden(turned[i])+"/\n"; got != want {
				t.Fatalf("P15.1: Script of a y of %d to %d: %q, want %q", i, turned[i], got, want)
			}
		}
		x := script.Script{Commands: []cmd.Command{{Name: 'y', Table: turned}}}
		if got := Script(x); got != "y/"+from+"/"+to+"/\n" {
			t.Fatalf("P15.1: Script of a y by %d: %q", by, got)
		}
		wantSame(t, x)
	}
}

// P15.1: a script has #n and a byte A, if it is quiet, and its commands' texts.
func TestScripts(t *testing.T) {
	for s, want := range map[string]string{
		"": "", " ; # x\n": "", "#n": "#n\n", "#n\n": "#n\n", "#n\np": "#n\np\n", "#n \np": "p\n", "\n#n\np": "p\n", "#nn\np": "p\n", "p;p;p": "p\np\np\n", "p # x\n\n\n;d": "p\nd\n", "#n\n#n\na\\\n#n": "#n\na\\\n#n\n",
	} {
		wantEach(t, s, want)
	}
	wantEach(t, strings.Repeat("p;", 100), strings.Repeat("p\n", 100))
	wantEach(t, strings.Repeat("{", 12)+strings.Repeat("}", 12), strings.Repeat("{\n", 12)+strings.Repeat("}\n", 12))
	if got := Script(script.Script{Quiet: true, Commands: []cmd.Command{{Name: 'p'}, {At: 3, Name: 'x'}}}); got != "#n\np\nx\n" {
		t.Errorf("P15.1: Script of p and x: %q", got)
	}
}

// P15.1: where a command stands, and how it was written, doesn't count.
func TestWhatDoesNotCount(t *testing.T) {
	for basic, extended := range map[string]string{
		`s/\(a\)\+/\1/;p`: "\n  s,(a)+,\\1, ; p", `/[[:digit:]]\{1,\}/p`: `/[0-9]+/p`, `/a\|b\?/p`: `\xa|b{0,1}xp`, `/\w/,+3p`: `/[[:alnum:]_]/ , +003 p`, "a x": "a\\\nx\n", "y/ab/bc/": "y,dba,dcb,", "{p}": "{;p\n}",
	} {
		x, y := read(t, basic, false), read(t, extended, true)
		if got, want := Script(x), Script(y); got != want || !script.Same(x, y) {
			t.Errorf("P15.1: Script of %q and of %q: %q and %q", basic, extended, got, want)
		}
	}
}
