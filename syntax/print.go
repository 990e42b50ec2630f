package syntax

import (
	"strings"

	"augur/api"
	"augur/lex"
)

// printer writes formulas, one behind the other.
type printer struct {
	signs [api.OpTrig + 1]sign
	text  strings.Builder
}

func (p *printer) formula(f api.Formula) {
	own := p.signs[f.Op]
	switch own.level {
	case alone:
		p.leaf(f)
	case ahead:
		p.text.WriteString(own.text)
		if f.Op != api.OpNot {
			p.text.WriteByte(' ')
		}
		p.right(own, f.Kids[0])
	default:
		p.left(own, f.Kids[0])
		p.text.WriteString(" " + own.text + " ")
		p.right(own, f.Kids[1])
	}
}

func (p *printer) leaf(f api.Formula) {
	if f.Op == api.OpProp {
		p.text.WriteString(lex.Quote(f.Name))
	} else {
		p.text.WriteString(p.signs[f.Op].text)
	}
}

// left writes the kid that stands ahead of an operator: in brackets, if that
// would take the kid's last part from it.
func (p *printer) left(own sign, kid api.Formula) {
	p.kid(kid, !p.signs[kid.Op].takes(own.operator))
}

// right writes the kid that stands behind an operator: in brackets, if that
// would take the kid's first part alone.
func (p *printer) right(own sign, kid api.Formula) {
	p.kid(kid, own.takes(p.signs[kid.Op].operator))
}

func (p *printer) kid(f api.Formula, brackets bool) {
	if !brackets {
		p.formula(f)
		return
	}
	p.text.WriteByte('(')
	p.formula(f)
	p.text.WriteByte(')')
}
