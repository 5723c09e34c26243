package cmd

import (
	"testing"

	"placket/addr"
	"placket/octet"
	"placket/tree"
)

// wantSame holds an answer of Same, both ways round.
func wantSame(t *testing.T, a, b Command, want bool) {
	t.Helper()
	if Same(a, b) != want || Same(b, a) != want {
		t.Errorf("P13.1: Same of %+v and %+v: %t", a, b, !want)
	}
}

// read is the command of a text that has one.
func read(t *testing.T, s string, extended bool) Command {
	t.Helper()
	c, _, _, e := Parse(s, 0, extended)
	if e != 0 {
		t.Fatalf("P13.1: Parse(%q): %d", s, e)
	}
	return c
}

// P13.1: commands that differ in what counts aren't the same.
func TestSameOfUnlikeCommands(t *testing.T) {
	all := []string{
		"p", "d", "P", "{", "}", "1p", "2p", "$p", "/a/p", "/b/p", "1,2p", "1,3p", "1,$p", "1,+2p", "1,/a/p", "!p", "1!p", "1,2!p", "/a/d", "1{",
		":a", ":b", "b", "b a", "b b", "t", "t a", "T", "T a", "a x", "i x", "c x", "a y", "a\\\n", "a x\\\nx", "r f", "w f", "r g",
		"s/a/b/", "s/b/b/", "s/a/a/", "s/a//", "s/a/&/", "s/a/\\&/", "s/a/bb/", "s/a/b&/", "s/a/&b/", "s/a/b/g", "s/a/b/p", "s/a/b/gp", "s/a/b/1", "s/a/b/2", "s/a/b/2g", "s/a/b/w f", "s/a/b/w g", "s/a/b/pw f", "1s/a/b/", "!s/a/b/", "s/\\(a\\)/b/", "s/\\(a\\)/&/", "s/\\(a\\)/\\1/", "s/\\(a\\)/\\1\\1/", "s/\\(a\\)\\(a\\)/\\1/", "s/\\(a\\)\\(a\\)/\\2/", "s/\\(a\\)*/\\1/",
		"y///", "y/a/b/", "y/b/a/", "y/ab/ba/", "y/ab/bc/", "1y/a/b/",
	}
	for i, a := range all {
		for j, b := range all {
			wantSame(t, read(t, a, false), read(t, b, false), i == j)
		}
	}
}

// P13.1: those that differ in where they stand, and in how they are written, are the same.
func TestSameOfCommandsWrittenOtherwise(t *testing.T) {
	for a, b := range map[string]string{
		"p": " \tp}", "1,2!p": "01 , 2 ! p;", "/a+/p": "\\xa{1,}xp", "b": "b ;", "bx": "b x ", ":x;": ": x", "a x": "a\\\nx", "a\\x": "ax", "c\\\na\\\nb": "c a\\\nb\n", "r f": "r\tf ",
		"s/a/b/": "  s,a,b,", "s/a+/b/": "s/a{1,}/\\b/", "s/[b]/\\n/": "s/b/\\\n/", "s/a/&/": "s/a/\\0/", "s/a/b/gp2": "s/a/b/2pg}", "s/a/b/2": "s/a/b/002", "s/a/x\\/y/w f": "s,a,x/y,w  f ", "s/[/]/\\//": "s#\\/#/#",
		"y/ab/ba/": "y,ba,ab,", "y///": "y/ab/ab/", "y/a\\n/bc/": "y/\\na/cb/",
	} {
		wantSame(t, read(t, a, true), read(t, b, true), true)
	}
	wantSame(t, read(t, "/a+/s/(b|c)/\\1/", true), read(t, "/a\\+/s/\\(b\\|c\\)/\\1/", false), true)
	wantSame(t, read(t, "/a{1,}/s/a+/b/", true), read(t, "/a+/s/[a]{1,}/b/", true), true)
	wantSame(t, read(t, "s/a+/b/", true), read(t, "s/a+/b/", false), false)
}

// R7: of commands of any fields all of these count, but where they stand, and the texts of regexes.
func TestSameOfAnyFields(t *testing.T) {
	one := func(b byte) tree.Node { return tree.One{Set: octet.Of(b)} }
	full := func() Command {
		return Command{
			At: 3, Guard: addr.Guard{A: addr.Address{Kind: addr.Regex, Text: "a", Tree: one('a')}, Not: true}, Name: 's', Arg: "x", Table: "ab",
			Sub: Sub{Text: "a", Tree: one('a'), Parts: []Part{{Group: -1, Text: "x"}, {Group: 1}}, Nth: 2, All: true, Print: true, File: "f"},
		}
	}
	wantSame(t, full(), full(), true)
	wantSame(t, Command{}, Command{}, true)
	wantSame(t, full(), Command{}, false)
	wantSame(t, Command{}, Command{Sub: Sub{Tree: tree.Empty{}, Parts: []Part{}}}, true)
	for i, change := range []func(c *Command){
		func(c *Command) { c.Name = 'y' },
		func(c *Command) { c.Guard.Not = false },
		func(c *Command) { c.Guard.A.Tree = one('b') },
		func(c *Command) { c.Guard.B.Kind = addr.Last },
		func(c *Command) { c.Arg = "y" },
		func(c *Command) { c.Table = "ba" },
		func(c *Command) { c.Sub.Tree = one('b') },
		func(c *Command) { c.Sub.Tree = nil },
		func(c *Command) { c.Sub.Parts = nil },
		func(c *Command) { c.Sub.Parts = c.Sub.Parts[:1] },
		func(c *Command) { c.Sub.Parts[0].Text = "y" },
		func(c *Command) { c.Sub.Parts[1].Group = 0 },
		func(c *Command) { c.Sub.Parts[0], c.Sub.Parts[1] = c.Sub.Parts[1], c.Sub.Parts[0] },
		func(c *Command) { c.Sub.Parts = append(c.Sub.Parts, Part{Group: 1}) },
		func(c *Command) { c.Sub.Nth = 0 },
		func(c *Command) { c.Sub.All = false },
		func(c *Command) { c.Sub.Print = false },
		func(c *Command) { c.Sub.File = "" },
	} {
		c := full()
		change(&c)
		if Same(full(), c) || Same(c, full()) {
			t.Errorf("P13.1: Same, the change number %d", i)
		}
	}
	for i, change := range []func(c *Command){
		func(c *Command) { c.At = -1 },
		func(c *Command) { c.Sub.Text = "[a]" },
		func(c *Command) { c.Guard.A.Text = "[a]" },
	} {
		c := full()
		change(&c)
		if !Same(full(), c) || !Same(c, full()) {
			t.Errorf("P13.1: Same, what doesn't count, number %d", i)
		}
	}
}
