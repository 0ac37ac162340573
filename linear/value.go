package linear

import (
	"relucert/api"
	"relucert/rational"
)

// Eval returns the value of a form at a point.
func Eval(f api.Affine, x []api.Rat) (api.Rat, api.Errno) {
	if !within(f, len(x)) {
		return api.Rat{}, api.ErrRange
	}
	return value(f, func(t api.Term) api.Rat { return x[t.Var] }), api.OK
}

// Range returns the interval of the values of a form in a box.
func Range(f api.Affine, box []api.Interval) (api.Interval, api.Errno) {
	if !within(f, len(box)) {
		return api.Interval{}, api.ErrRange
	}
	least := func(t api.Term) api.Rat {
		if t.Coef.Neg {
			return box[t.Var].Hi
		}
		return box[t.Var].Lo
	}
	greatest := func(t api.Term) api.Rat {
		if t.Coef.Neg {
			return box[t.Var].Lo
		}
		return box[t.Var].Hi
	}
	return api.Interval{Lo: value(f, least), Hi: value(f, greatest)}, api.OK
}

// within reports whether all variables of a form are less than vars.
func within(f api.Affine, vars int) bool {
	for _, t := range f.Terms {
		if t.Var < 0 || t.Var >= vars {
			return false
		}
	}
	return true
}

// value returns the value of a form in new memory, where a function returns the value of the variable of each term.
func value(f api.Affine, variable func(t api.Term) api.Rat) api.Rat {
	parts := []api.Rat{copied(f.Const)}
	for _, t := range f.Terms {
		parts = append(parts, rational.Mul(t.Coef, variable(t)))
	}
	return sum(parts)
}
