package core_test

import (
	"strconv"
	"strings"
	"testing"

	"grapnel/api"
	"grapnel/core"
	"grapnel/parse"
)

// kindName tells what a core's kind is called.
func kindName(kind int) string {
	exprs := strings.Fields("Int Text Var Builtin Con Tuple Array Record Get Set At Put App Fun Let Rec If Match Try Case Raise While For Seq Op")
	patterns := strings.Fields("QAny QVar QInt QText QCon QTuple QRecord QOr QAs")
	switch {
	case kind >= api.KInt && kind <= api.KOp:
		return exprs[kind-api.KInt]
	case kind >= api.QAny && kind <= api.QAs:
		return patterns[kind-api.QAny]
	}
	return "kind" + strconv.Itoa(kind)
}

// told writes a core down, each of its fields that isn't zero: (Kind@At nN vV sS parts..).
func told(c api.Core) string {
	s := "(" + kindName(c.Kind) + "@" + strconv.Itoa(c.At)
	if c.N != 0 {
		s += " n" + strconv.FormatInt(c.N, 10)
	}
	if c.V != 0 {
		s += " v" + strconv.Itoa(c.V)
	}
	if c.S != "" {
		s += " s" + c.S
	}
	for _, x := range c.L {
		s += " " + told(x)
	}
	return s + ")"
}

// typeTold writes a type down.
func typeTold(t api.Type) string {
	s := "("
	if t.V != 0 {
		s += "'" + strconv.Itoa(t.V) + " "
	}
	s += t.S
	for _, x := range t.L {
		s += " " + typeTold(x)
	}
	return s + ")"
}

func conTold(c api.Con) string {
	s := c.Name + " " + strconv.Itoa(c.N)
	for _, t := range c.Of {
		s += " of " + typeTold(t)
	}
	return s
}

// declsTold writes what is declared down, an exception or a type a line.
func declsTold(d api.Decls) string {
	var lines []string
	for _, s := range d.Sorts {
		line := "type " + s.Name
		for _, c := range s.Cons {
			line += " | " + conTold(c)
		}
		for _, l := range s.Labels {
			line += " ; "
			if l.Mutable {
				line += "mutable "
			}
			line += l.Name + " " + typeTold(l.T)
		}
		lines = append(lines, line)
	}
	for _, c := range d.Exns {
		lines = append(lines, "exception "+conTold(c))
	}
	return strings.Join(lines, "\n")
}

// parsed tells the tree of a source that has one.
func parsed(t *testing.T, s string) api.Node {
	t.Helper()
	n, e, at := parse.Parse(s)
	if e != api.OK {
		t.Fatalf("%s: parse tells %d at %d", s, e, at)
	}
	return n
}

// isCore holds that a source has this core.
func isCore(t *testing.T, s, want string) {
	t.Helper()
	_, c, e, at := core.Resolve(parsed(t, s))
	if got := told(c); e != api.OK || at != 0 || got != want {
		t.Errorf("%s:\ngot  %s, %d at %d\nwant %s", s, got, e, at, want)
	}
}

// isFault holds that a source has this error at this place, and nothing beside it.
func isFault(t *testing.T, s string, want api.Errno, place int) {
	t.Helper()
	d, c, e, at := core.Resolve(parsed(t, s))
	if e != want || at != place {
		t.Errorf("%s:\ngot  %d at %d\nwant %d at %d", s, e, at, want, place)
	}
	if d.Sorts != nil || d.Exns != nil || told(c) != "(kind0@0)" {
		t.Errorf("%s: %d, and %v, %v beside it", s, e, d, c)
	}
}
