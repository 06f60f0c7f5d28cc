package packet

import (
	"bytes"

	"packhorse/api"
)

// Reader reads bytes from their beginning on. Once something couldn't be read it is bad, and stays so: who reads much need ask but once, at the end.
type Reader struct {
	bytes []byte
	read  int
	bad   bool
}

// New makes a Reader at the beginning of b. It takes a copy, as b may be written over behind the call.
func New(b []byte) *Reader {
	return &Reader{bytes: bytes.Clone(b)}
}

// Number tells the next number; bad and 0, if there is none, it isn't as Number writes it, or it is above most.
func (r *Reader) Number(most uint64) uint64 {
	if r.bad {
		return 0
	}
	n, size, errno := number(r.bytes[r.read:], most)
	if errno != api.OK {
		r.spoil()
		return 0
	}
	r.read += size
	return n
}

// Text tells the next text; bad and empty, if its Number can't be read or is above most, most is below 0, or there aren't so many bytes.
func (r *Reader) Text(most int) string {
	if most < 0 {
		r.spoil()
	}
	n := r.Number(uint64(most))
	if r.bad || n > uint64(len(r.bytes)-r.read) {
		r.spoil()
		return ""
	}
	from := r.read
	r.read += int(n)
	return string(r.bytes[from:r.read])
}

// Done tells whether the Reader isn't bad and nothing is left.
func (r *Reader) Done() bool {
	return !r.bad && r.read == len(r.bytes)
}

// Bad tells whether something couldn't be read.
func (r *Reader) Bad() bool {
	return r.bad
}

// spoil makes the Reader bad. Its bytes are let go, as nothing will be read of them.
func (r *Reader) spoil() {
	*r = Reader{bad: true}
}
