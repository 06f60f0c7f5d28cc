package reel

import (
	"slices"

	"packhorse/api"
	"packhorse/marks"
	"packhorse/packet"
	"packhorse/plate"
)

// row is the frames that stand on a side, for a round.
type row struct {
	round  uint64
	cells  int      // so many cells the frames have
	bodies [][]byte // the tale, and behind it the words; none, if there is no tale
}

// rowOn reads as many frames of a side as there are, one behind the other, the first one a tale.
func rowOn(p *plate.Plate, side int) row {
	round, inners := marks.Read(p, side)
	rest := slices.Concat(inners...)
	there := row{round: round}
	for kind := byte(taleKind); ; kind = wordKind {
		body, cells := frameAt(rest, kind)
		if cells == 0 {
			return there
		}
		there.bodies = append(there.bodies, body)
		there.cells += cells
		rest = rest[cells*api.InnerSize:]
	}
}

func (there row) whole() bool {
	return len(there.bodies) > 0
}

// left tells how many cells of a side are behind the row.
func (there row) left(p *plate.Plate) int {
	return marks.Room(p) - there.cells
}

// frameAt tells the Body of a frame of that kind at the beginning of b, which is the bytes of whole cells, and how many cells the frame has; 0, if none is there, or more than noughts behind it in its last cell.
func frameAt(b []byte, kind byte) ([]byte, int) {
	f, size, errno := packet.Open(b)
	if errno != api.OK || f.Kind != kind {
		return nil, 0
	}
	cells := Cells(len(f.Body))
	if !noughts(b[size : cells*api.InnerSize]) {
		return nil, 0
	}
	return f.Body, cells
}

func noughts(b []byte) bool {
	for _, x := range b {
		if x != 0 {
			return false
		}
	}
	return true
}
