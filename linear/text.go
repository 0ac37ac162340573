package linear

import (
	"strconv"
	"strings"

	"relucert/api"
	"relucert/decimal"
	"relucert/rational"
)

// Text returns the text of a form.
func Text(f api.Affine) string {
	var text strings.Builder
	for _, t := range f.Terms {
		writePart(&text, termText(t))
	}
	if len(f.Terms) == 0 || rational.Sign(f.Const) != 0 {
		writePart(&text, decimal.Text(f.Const))
	}
	return text.String()
}

// termText returns the text of a term.
func termText(t api.Term) string {
	variable := "x" + strconv.Itoa(t.Var)
	switch coef := decimal.Text(t.Coef); coef {
	case "1":
		return variable
	case "-1":
		return "-" + variable
	default:
		return coef + "*" + variable
	}
}

// writePart writes a part behind those that are there.
func writePart(text *strings.Builder, part string) {
	rest, negative := strings.CutPrefix(part, "-")
	switch {
	case text.Len() == 0:
		text.WriteString(part)
	case negative:
		text.WriteString(" - " + rest)
	default:
		text.WriteString(" + " + part)
	}
}
