package flows

import (
	"hackamore/api"
	"hackamore/ssa"
)

// Garbage returns a function of any form, right or wrong: one by chance with parts of it replaced by others.
func (m *Maker) Garbage() ssa.Func {
	f := m.Func([]string{"f", "", "\xff"}[m.Pick(3)], m.Pick(3), 1+m.Pick(5), 1+m.Pick(5))
	if m.Pick(9) == 0 {
		f.Blocks = nil
	}
	for range m.Pick(6) {
		if len(f.Blocks) > 0 {
			m.spoil(&f.Blocks[m.Pick(len(f.Blocks))])
		}
	}
	return f
}

// strange returns a number that is seldom right.
func (m *Maker) strange() int { return []int{-1, 0, 1, 2, 7, 99, 100000, 1 << 62, -1 << 63}[m.Pick(9)] }

// spoil replaces a part of a block.
func (m *Maker) spoil(b *ssa.Block) {
	switch m.Pick(5) {
	case 0:
		b.End.Kind = m.Pick(9) - 1
	case 1:
		b.End.To = append(b.End.To, m.strange())
	case 2:
		b.End.Args = append(b.End.Args, m.strange())
	case 3:
		m.spoilIns(&b.End.Call)
	default:
		if len(b.Ins) > 0 {
			m.spoilIns(&b.Ins[m.Pick(len(b.Ins))])
		}
	}
}

func (m *Maker) spoilIns(x *ssa.Ins) {
	switch m.Pick(9) {
	case 0:
		x.Op = m.Pick(20) - 1
	case 1:
		x.Result = m.strange()
	case 2:
		x.Args = append(x.Args, m.strange())
	case 3:
		x.Args = nil
	case 4:
		x.Text = []string{"", "f", "\xff", "U8.add"}[m.Pick(4)]
	case 5:
		x.N = m.strange()
	case 6:
		x.Lit = api.Value{Kind: m.strange(), Lo: 7, Kids: make([]api.Value, m.Pick(70))}
	case 7:
		x.Type = api.Type{Kind: m.strange(), Args: make([]api.Type, m.Pick(3))}
	default:
		x.Flag = !x.Flag
	}
}
