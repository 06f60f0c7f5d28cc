package snap

import (
	"packhorse/api"
	"packhorse/packet"
)

// mostBytes is how long a label may be: a sign has one byte or two.
const mostBytes = 2 * api.MaxLabel

// Command tells the command as bytes: its kind, and what that has.
func Command(c api.Command) []byte {
	has := partsOf(c.Kind)
	b := packet.Number(nil, uint64(c.Kind))
	if has.id {
		b = packet.Text(b, c.Id)
	}
	if has.lines {
		b = append(b, linesAsBytes(c.Lines)...)
	}
	if has.group {
		b = packet.Text(b, c.Group.Carrier, c.Group.Zone, c.Group.Service)
	}
	if has.total {
		b = packet.Number(b, uint64(c.Total))
	}
	if has.mostNumber > 0 {
		b = packet.Number(b, uint64(c.Number))
	}
	if has.yes {
		b = packet.Number(b, asNumber(c.Yes))
	}
	return b
}

// Told tells the right command whose bytes b is; ErrSnap, if there is none.
func Told(b []byte) (api.Command, api.Errno) {
	r := packet.New(b)
	c := readCommand(r)
	// Asked at the end, as a Reader that is bad tells noughts, of which a command that is cut off may look right.
	if !r.Done() || !Right(c) {
		return api.Command{}, api.ErrSnap
	}
	return c, api.OK
}

// linesAsBytes writes each line by itself and lays it behind: written behind all that is there, it would be copied with all that each time.
func linesAsBytes(l []api.Line) []byte {
	b := packet.Number(nil, uint64(len(l)))
	for _, line := range l {
		b = append(b, packet.Text(nil, line.Sku)...)
		b = append(b, packet.Number(nil, uint64(line.Qty), uint64(line.Weight))...)
	}
	return b
}

func asNumber(yes bool) uint64 {
	if yes {
		return 1
	}
	return 0
}

func readCommand(r *packet.Reader) api.Command {
	next := r.Number
	c := api.Command{Kind: int(next(api.DoAsk))}
	has := partsOf(c.Kind)
	if has.id {
		c.Id = r.Text(mostBytes)
	}
	if has.lines {
		for range next(api.MaxLines) {
			c.Lines = append(c.Lines, readLine(r))
		}
	}
	if has.group {
		c.Group = readGroup(r)
	}
	if has.total {
		c.Total = int64(next(api.MaxTally))
	}
	if has.mostNumber > 0 {
		c.Number = int64(next(uint64(has.mostNumber)))
	}
	if has.yes {
		c.Yes = next(1) == 1
	}
	return c
}

func readLine(r *packet.Reader) api.Line {
	var line api.Line
	line.Sku = r.Text(mostBytes)
	line.Qty = int64(r.Number(api.MaxQty))
	line.Weight = int64(r.Number(api.MaxWeight))
	return line
}

func readGroup(r *packet.Reader) api.Group {
	var g api.Group
	g.Carrier = r.Text(mostBytes)
	g.Zone = r.Text(mostBytes)
	g.Service = r.Text(mostBytes)
	return g
}
