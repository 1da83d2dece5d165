package policy

import (
	"math"

	"ravelin/api"
)

// policy reads a policy, up to the text's end.
func (r *reader) policy() api.Policy {
	var p api.Policy
	r.demand(wordArch)
	p.Arch = r.name()
	r.demand(";")
	r.demand(wordForeign)
	p.Foreign = r.verdict()
	r.demand(";")
	r.demand(wordDefault)
	p.Default = r.verdict()
	r.demand(";")
	p.Rules = r.rules()
	return p
}

// rules reads rules up to the text's end.
func (r *reader) rules() []api.Rule {
	var l []api.Rule
	for r.token.Kind != api.TokenEnd {
		if len(l) == api.MaxRules && r.at(wordOn) {
			r.refuse(api.ErrPolicyMany)
		}
		l = append(l, r.rule())
	}
	return l
}

func (r *reader) rule() api.Rule {
	r.demand(wordOn)
	x := api.Rule{Calls: byTurns(r, ",", r.call), When: api.Expr{Op: api.ExprTrue}}
	if r.skip(wordWhen) {
		x.When = r.expr()
	}
	r.demand(wordDo)
	x.Do = r.verdict()
	r.demand(";")
	return x
}

func (r *reader) call() api.Call {
	if r.token.Kind == api.TokenNumber {
		return api.Call{Nr: r.number()}
	}
	return api.Call{Name: r.name()}
}

func (r *reader) verdict() api.Verdict {
	v := api.Verdict{Kind: api.KillProcess + api.ActionKind(r.choice(verdictWords()))}
	if hasNumber(v.Kind) {
		v.Data = r.number()
	}
	return v
}

// wholeExpr reads an expression that goes up to the text's end.
func (r *reader) wholeExpr() api.Expr {
	e := r.expr()
	if r.token.Kind != api.TokenEnd {
		r.refuse(api.ErrPolicyWord)
	}
	return e
}

func (r *reader) expr() api.Expr {
	return joined(api.ExprOr, byTurns(r, wordOr, r.all))
}

func (r *reader) all() api.Expr {
	return joined(api.ExprAnd, byTurns(r, wordAnd, r.one))
}

// joined is the expression of several ones; one alone is itself.
func joined(op api.ExprOp, l []api.Expr) api.Expr {
	if len(l) == 1 {
		return l[0]
	}
	return api.Expr{Op: op, Args: l}
}

func (r *reader) one() api.Expr {
	switch {
	case r.at(wordNot):
		return r.not()
	case r.at("("):
		return r.inParentheses()
	case r.skip(wordTrue):
		return api.Expr{Op: api.ExprTrue}
	case r.skip(wordFalse):
		return api.Expr{Op: api.ExprFalse}
	}
	return r.test()
}

func (r *reader) not() api.Expr {
	r.open()
	e := r.one()
	r.close()
	return api.Expr{Op: api.ExprNot, Args: []api.Expr{e}}
}

func (r *reader) inParentheses() api.Expr {
	r.open()
	e := r.expr()
	r.demand(")")
	r.close()
	return e
}

func (r *reader) test() api.Expr {
	e := api.Expr{Op: api.ExprTest, Field: r.choice(fieldWords()), Mask: math.MaxUint64}
	if r.skip("&") {
		e.Mask = r.number()
	}
	e.Rel = api.RelEq + api.Rel(r.choice(relSigns()))
	e.Value = r.number()
	return e
}
