package check

const (
	// start is what a register has ahead of the first byte, and what turns it behind the last one.
	start = 0xffffffff
	// turn is what turns a register when the bit that falls out of it is 1.
	turn = 0x82f63b78
)

// Summer sums what goes into it.
type Summer struct {
	// sum, not the register, is kept: so a Summer that New did not make is one into which nothing went, too.
	sum uint32
	// table tells by the lowest byte of a register what its eight steps down turn the rest by.
	table [256]uint32
}

// New is a summer into which nothing went.
func New() *Summer { return &Summer{} }

// Write puts all parts in, one behind the other, and tells the summer itself.
func (s *Summer) Write(parts ...string) *Summer {
	if s == nil {
		return nil
	}
	s.fill()
	register := s.sum ^ start
	for _, part := range parts {
		for i := range len(part) {
			register = register>>8 ^ s.table[byte(register)^part[i]]
		}
	}
	s.sum = register ^ start
	return s
}

// Sum is the sum of all that went in.
func (s *Summer) Sum() uint32 {
	if s == nil {
		return 0
	}
	return s.sum
}

// Reset makes it as if nothing had gone in.
func (s *Summer) Reset() {
	if s != nil {
		s.sum = 0
	}
}

// fill makes the table, if that was not done before: no place of it but the first is 0 then.
//
// What two registers come to, turned by each other, is what the registers turned by each other come to: so eight
// places, those of one bit each, are gone down to, and every other is that of its lowest bit and that of the rest.
func (s *Summer) fill() {
	if s.table[1] != 0 {
		return
	}
	register := uint32(1)
	for step := range 8 {
		register = down(register)
		bit := 128 >> step
		for low := bit; low < len(s.table); low += 2 * bit {
			s.table[low] = s.table[low-bit] ^ register
		}
	}
}

// down is the register gone down by one bit.
func down(register uint32) uint32 {
	if register&1 == 1 {
		return register>>1 ^ turn
	}
	return register >> 1
}

// Sum is the sum of text.
func Sum(text string) uint32 { return New().Write(text).Sum() }
