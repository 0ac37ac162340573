package linear

import (
	"slices"

	"relucert/api"
	"relucert/rational"
)

// Add returns the sum.
func Add(f, g api.Affine) api.Affine {
	return api.Affine{Terms: merged(f.Terms, g.Terms), Const: rational.Add(f.Const, g.Const)}
}

// Sub returns the difference.
func Sub(f, g api.Affine) api.Affine {
	return api.Affine{Terms: merged(f.Terms, negated(g.Terms)), Const: rational.Sub(f.Const, g.Const)}
}

// Scale returns a multiple.
func Scale(f api.Affine, c api.Rat) api.Affine {
	out := api.Affine{Const: rational.Mul(f.Const, c)}
	for _, t := range f.Terms {
		out.Terms = appendTerm(out.Terms, t.Var, rational.Mul(t.Coef, c))
	}
	return out
}

// Substitute returns a form in which a variable is replaced by a form.
func Substitute(f api.Affine, v int, g api.Affine) api.Affine {
	rest := slices.DeleteFunc(slices.Clone(f.Terms), func(t api.Term) bool { return t.Var == v })
	return Add(api.Affine{Terms: rest, Const: f.Const}, Scale(g, Coef(f, v)))
}

// merged returns the sum of the terms of two forms in new memory.
func merged(a, b []api.Term) []api.Term {
	out := make([]api.Term, 0, len(a)+len(b))
	for len(a) > 0 || len(b) > 0 {
		switch {
		case len(b) == 0 || len(a) > 0 && a[0].Var < b[0].Var:
			out = append(out, api.Term{Var: a[0].Var, Coef: copied(a[0].Coef)})
			a = a[1:]
		case len(a) == 0 || b[0].Var < a[0].Var:
			out = append(out, api.Term{Var: b[0].Var, Coef: copied(b[0].Coef)})
			b = b[1:]
		default:
			out = appendTerm(out, a[0].Var, rational.Add(a[0].Coef, b[0].Coef))
			a, b = a[1:], b[1:]
		}
	}
	return out
}

// negated returns the negated terms of a form. It does not copy the limbs of their coefficients.
func negated(terms []api.Term) []api.Term {
	out := slices.Clone(terms)
	for i := range out {
		out[i].Coef.Neg = !out[i].Coef.Neg
	}
	return out
}
