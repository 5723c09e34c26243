package match

import (
	"strconv"
	"strings"

	"placket/code"
)

// machine goes all ways of a program at once, from one place of the text to the next: gone one by one they may be too many, and as calls within calls they would be as deep as the text is long.
type machine struct {
	code.Program
	asked      [][]int
	text       string
	place      int
	slots      []int // of the way that is being gone
	none       []int // of a way that begins
	been       map[visit]struct{}
	here, next crowd
	best       []int // the slots of the first match, as far as it is known
}

// spot is where a way is.
type spot struct {
	inst int
	rest int // how many bytes of what a Back asks for are still ahead
	// Whether a round began at this place. Then no Round lets the way pass, as the loop that was entered last is the one that ends first; else each one does. So it needn't be known where which loop began.
	fresh bool
}

// visit is all of a way on which it depends how it may go on from a place.
type visit struct {
	spot
	asked string
}

func newMachine(r *Regex, text string, from int) *machine {
	m := &machine{Program: r.program, asked: r.asked, text: text, place: from, been: map[visit]struct{}{}}
	m.none = make([]int, 2*r.program.Groups+2)
	for i := range m.none {
		m.none[i] = -1
	}
	return m
}

// step goes all ways on to the next place: those first that begin first, and of these the preferred ones first. It tells whether more steps may change the first match.
func (m *machine) step() bool {
	clear(m.been)
	m.here, m.next = m.next, m.here.emptied()
	for i, at := range m.here.spots {
		m.slots = m.here.slotsOf(i)
		if m.best != nil && m.slots[0] > m.best[0] {
			break
		}
		m.follow(at)
	}
	if m.best == nil {
		m.slots = m.none
		m.follow(spot{})
	}
	m.place++
	return m.place <= len(m.text) && (m.best == nil || len(m.next.spots) > 0)
}

// follow goes all ways on from a spot, as far as they go at this place: of a Split first those with X, so that of ways that meet the preferred one was there first. It leaves the slots as they were.
func (m *machine) follow(at spot) {
	for m.arrive(at) {
		if at.rest > 0 {
			m.next.add(spot{inst: at.inst, rest: at.rest - 1}, m.slots)
			return
		}
		inst := m.Insts[at.inst]
		at.inst++
		switch inst.Op {
		case code.Split:
			m.follow(spot{inst: inst.X, fresh: at.fresh})
			at.inst = inst.Y
		case code.Jump:
			at.inst = inst.X
		case code.Save:
			m.save(inst.X, at)
			return
		case code.Enter:
			at.fresh = true
		case code.Match:
			// This one is better than the best so far: it is longer, or begins earlier, as ways that begin later aren't gone any more. Of those that end at this place it is the first one here, so the preferred one.
			m.best = append(m.best[:0], m.slots...)
			return
		default:
			size, ok := m.reads(inst, at)
			if !ok {
				return
			}
			if size > 0 {
				m.next.add(spot{inst: at.inst, rest: size - 1}, m.slots)
				return
			}
		}
	}
}

// arrive notes that a way is at a spot; false, if another one was, at this place, that goes on as this one would, or if there is no such instruction (beside an error Compile answers a program without any).
func (m *machine) arrive(at spot) bool {
	if at.inst >= len(m.Insts) {
		return false
	}
	known := len(m.been)
	m.been[visit{at, m.answers(at.inst)}] = struct{}{}
	return len(m.been) > known
}

// answers is what the way has in the slots for which a Back may ask from an instruction on, as a text.
func (m *machine) answers(inst int) string {
	if !m.Backs || len(m.asked[inst]) == 0 {
		return ""
	}
	var told []byte
	for _, slot := range m.asked[inst] {
		told = append(strconv.AppendInt(told, int64(m.slots[slot]), 36), ' ')
	}
	return string(told)
}

// save notes the place in a slot for all that follows, and only for that.
func (m *machine) save(slot int, behind spot) {
	had := m.slots[slot]
	defer func() { m.slots[slot] = had }()
	m.slots[slot] = m.place
	m.follow(behind)
}

// reads tells how many bytes an instruction goes over; false, if it lets no way pass.
func (m *machine) reads(inst code.Inst, at spot) (int, bool) {
	switch inst.Op {
	case code.Byte:
		return 1, m.place < len(m.text) && inst.Set.Has(m.text[m.place])
	case code.Back:
		return m.again(inst.X)
	case code.Begin:
		return 0, m.place == 0
	case code.End:
		return 0, m.place == len(m.text)
	}
	return 0, !at.fresh // Round
}

// again tells how long what a group matched is; false, if it matched nothing, or that doesn't stand here.
func (m *machine) again(group int) (int, bool) {
	from, to := m.slots[2*group], m.slots[2*group+1]
	if from < 0 || to < 0 {
		return 0, false
	}
	return to - from, strings.HasPrefix(m.text[m.place:], m.text[from:to])
}

// crowd is ways that wait for a place, with their slots, those of one behind those of the other.
type crowd struct {
	spots []spot
	slots []int
}

func (c *crowd) add(at spot, slots []int) {
	c.spots = append(c.spots, at)
	c.slots = append(c.slots, slots...)
}

// slotsOf is a way's slots, which the crowd has, too.
func (c *crowd) slotsOf(i int) []int {
	size := len(c.slots) / len(c.spots)
	return c.slots[i*size : (i+1)*size]
}

// emptied is a crowd of none, in the memory of this one.
func (c *crowd) emptied() crowd {
	return crowd{c.spots[:0], c.slots[:0]}
}
