package policy

import (
	"math"
	"strconv"
	"strings"

	"ravelin/api"
	"ravelin/lex"
)

// unwritten stands for what no text says. No token begins so: whatever it stands in is not read as something else.
const unwritten = "?"

func writePolicy(b *strings.Builder, p api.Policy) {
	writeHead(b, wordArch, nameText(p.Arch))
	writeHead(b, wordForeign, verdictText(p.Foreign))
	writeHead(b, wordDefault, verdictText(p.Default))
	for _, x := range p.Rules {
		writeRule(b, x)
	}
}

func writeHead(b *strings.Builder, word, what string) {
	b.WriteString(word + " " + what + ";\n")
}

func writeRule(b *strings.Builder, x api.Rule) {
	b.WriteString(wordOn + " ")
	for i, c := range x.Calls {
		if i > 0 {
			b.WriteString(", ")
		}
		b.WriteString(callText(c))
	}
	if x.When.Op != api.ExprTrue {
		b.WriteString(" " + wordWhen + " ")
		writeExpr(b, x.When)
	}
	b.WriteString(" " + wordDo + " " + verdictText(x.Do) + ";\n")
}

func callText(c api.Call) string {
	if c.Name == "" {
		return numberText(c.Nr)
	}
	return nameText(c.Name)
}

func nameText(name string) string {
	if !lex.Word(name) {
		return unwritten
	}
	return name
}

func numberText(n uint64) string { return strconv.FormatUint(n, 10) }

func verdictText(v api.Verdict) string {
	word := markAt(verdictWords(), int(v.Kind-api.KillProcess))
	if hasNumber(v.Kind) {
		return word + " " + numberText(v.Data)
	}
	return word
}

// markAt is the word or the sign at a place among several, if there is such a place.
func markAt(marks []string, i int) string {
	if i < 0 || i >= len(marks) {
		return unwritten
	}
	return marks[i]
}

func writeExpr(b *strings.Builder, e api.Expr) {
	switch {
	case e.Op == api.ExprTrue:
		b.WriteString(wordTrue)
	case e.Op == api.ExprFalse:
		b.WriteString(wordFalse)
	case e.Op == api.ExprTest:
		b.WriteString(testText(e))
	case e.Op == api.ExprNot && len(e.Args) == 1:
		b.WriteString(wordNot + " ")
		writeArg(b, e.Op, e.Args[0])
	case e.Op == api.ExprAnd && len(e.Args) > 1:
		writeArgs(b, e, " "+wordAnd+" ")
	case e.Op == api.ExprOr && len(e.Args) > 1:
		writeArgs(b, e, " "+wordOr+" ")
	default:
		b.WriteString(unwritten)
	}
}

// writeArgs writes all arguments, with a mark between them.
func writeArgs(b *strings.Builder, e api.Expr, mark string) {
	for i, arg := range e.Args {
		if i > 0 {
			b.WriteString(mark)
		}
		writeArg(b, e.Op, arg)
	}
}

func writeArg(b *strings.Builder, outer api.ExprOp, arg api.Expr) {
	if !bracketed(outer, arg.Op) {
		writeExpr(b, arg)
		return
	}
	b.WriteString("(")
	writeExpr(b, arg)
	b.WriteString(")")
}

func testText(e api.Expr) string {
	s := markAt(fieldWords(), e.Field)
	if e.Mask != math.MaxUint64 {
		s += " & 0x" + strconv.FormatUint(e.Mask, 16)
	}
	return s + " " + markAt(relSigns(), int(e.Rel-api.RelEq)) + " " + numberText(e.Value)
}
