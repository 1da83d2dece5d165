package policy

import "ravelin/api"

// The words of the grammar that stand for themselves: what reads and what writes has them alike.
const (
	wordArch    = "arch"
	wordForeign = "foreign"
	wordDefault = "default"
	wordOn      = "on"
	wordWhen    = "when"
	wordDo      = "do"
	wordOr      = "or"
	wordAnd     = "and"
	wordNot     = "not"
	wordTrue    = "true"
	wordFalse   = "false"
)

// verdictWords are the words of the kinds of actions, from KillProcess on.
func verdictWords() []string {
	return []string{"kill_process", "kill_thread", "trap", "errno", "notify", "trace", "log", "allow"}
}

// hasNumber: does a number stand behind the word of this kind?
func hasNumber(kind api.ActionKind) bool {
	return kind == api.Trap || kind == api.Fault || kind == api.Trace
}

// fieldWords are the words of the fields, from 0 on; the last one is FieldIP's.
func fieldWords() []string {
	return []string{"arg0", "arg1", "arg2", "arg3", "arg4", "arg5", "ip"}
}

// relSigns are the signs of the relations, from RelEq on.
func relSigns() []string {
	return []string{"==", "!=", "<", "<=", ">", ">="}
}

// bracketed: do parentheses stand around an argument of such an expression?
func bracketed(outer, inner api.ExprOp) bool {
	switch outer {
	case api.ExprNot, api.ExprAnd:
		return inner == api.ExprAnd || inner == api.ExprOr
	case api.ExprOr:
		return inner == api.ExprOr
	}
	return false
}
