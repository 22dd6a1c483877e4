package escape

import "lyceum/api"

// escape tells the act of an escape that r ends, if it does.
func (p *Parser) escape(r rune) (api.Act, bool) {
	switch {
	case between(r):
		if p.mid != 0 {
			r = spoiltMid
		}
		p.mid = byte(r)
		return api.Act{}, false
	case p.mid == 0 && r == '[':
		*p = Parser{in: inControl}
		return api.Act{}, false
	case p.mid == 0 && leavesOut(r):
		*p = Parser{in: inLeftOut}
		return api.Act{}, false
	}
	mid := p.mid
	p.Reset()
	if r > 0x7e || mid == spoiltMid {
		return api.Act{}, false
	}
	return api.Act{Kind: api.Esc, R: r, Mid: mid}, true
}

// control tells the act of a control sequence that r ends, if it does.
func (p *Parser) control(r rune) (api.Act, bool) {
	switch {
	case ends(r):
		a := api.Act{Kind: api.Csi, R: r, Private: p.private, Mid: p.mid, N: min(p.n, room), Nums: p.nums}
		p.Reset()
		return a, true
	case p.mid == 0 && '0' <= r && r <= '9':
		p.digit(int(r - '0'))
	case p.mid == 0 && (r == ':' || r == ';'):
		p.n = min(max(p.n, 1)+1, room+1)
	case *p == Parser{in: inControl} && '<' <= r && r <= '?':
		p.private = byte(r)
	case p.mid == 0 && between(r):
		p.mid = byte(r)
	default:
		*p = Parser{in: inSpoilt}
	}
	return api.Act{}, false
}

// digit puts a digit behind those of the last number.
func (p *Parser) digit(d int) {
	p.n = max(p.n, 1)
	if p.n <= room {
		last := &p.nums[p.n-1]
		*last = min(*last*10+d, api.MaxNum)
	}
}

// between tells whether a character stands between a sequence's beginning and its end.
func between(r rune) bool {
	return 0x20 <= r && r <= 0x2f
}

// ends tells whether a character ends a control sequence.
func ends(r rune) bool {
	return 0x40 <= r && r <= 0x7e
}

// leavesOut tells whether a character begins a text that is left out.
func leavesOut(r rune) bool {
	switch r {
	case 'P', 'X', ']', '^', '_':
		return true
	}
	return false
}
