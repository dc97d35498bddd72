package wire

import (
	"slices"

	"haversack/api"
	"haversack/little"
)

// field is one of a request's or of a response's: the place there that it is laid from or read into.
type field interface {
	wrong() api.Errno    // why it can't be laid
	lay(b []byte) []byte // behind b, if nothing is wrong
	read(c *cursor)
	clear()
}

// wrong tells what is wrong with fields: that a number may not be, ahead of that a text is too long, wherever the two
// stand.
func wrong(l []field) api.Errno {
	for _, e := range []api.Errno{api.ErrArg, api.ErrLong} {
		if slices.ContainsFunc(l, func(x field) bool { return x.wrong() == e }) {
			return e
		}
	}
	return api.OK
}

func lay(b []byte, l []field) []byte {
	for _, x := range l {
		b = x.lay(b)
	}
	return b
}

// number is 4 bytes.
type number struct{ at *int }

func (x number) wrong() api.Errno {
	if *x.at < 0 || *x.at > api.MaxTime {
		return api.ErrArg
	}
	return api.OK
}

func (x number) lay(b []byte) []byte { return little.Put32(b, uint32(*x.at)) }

func (x number) read(c *cursor) {
	v := c.four()
	need(v <= api.MaxTime, api.ErrWireForm)
	*x.at = int(v)
}

func (x number) clear() { *x.at = 0 }

// text is 2 bytes that tell how many there are, and these.
type text struct {
	at   *string
	most int
}

func (x text) wrong() api.Errno {
	if len(*x.at) > x.most {
		return api.ErrLong
	}
	return api.OK
}

func (x text) lay(b []byte) []byte {
	return append(little.Put16(b, uint16(len(*x.at))), *x.at...)
}

func (x text) read(c *cursor) {
	n := c.two()
	need(n <= x.most, api.ErrWireForm)
	*x.at = string(c.take(n))
}

func (x text) clear() { *x.at = "" }

// cursor reads what stands in bytes, one behind the other. It gives up where they end.
type cursor struct{ rest []byte }

func (c *cursor) fill(l []field) {
	for _, x := range l {
		x.read(c)
	}
}

func (c *cursor) take(n int) []byte {
	need(n <= len(c.rest), api.ErrWireForm)
	taken := c.rest[:n]
	c.rest = c.rest[n:]
	return taken
}

func (c *cursor) one() int { return int(c.take(1)[0]) }

func (c *cursor) two() int {
	v, _ := little.Get16(c.take(2), 0)
	return int(v)
}

func (c *cursor) four() uint32 {
	v, _ := little.Get32(c.take(4), 0)
	return v
}

// end gives up, unless all was read.
func (c *cursor) end() { need(len(c.rest) == 0, api.ErrWireForm) }

// need gives up with this error, unless all is well. The faces catch it.
func need(well bool, e api.Errno) {
	if !well {
		panic(e)
	}
}

// gaveUp: the error of what was caught; OK, if it is nothing. A panic that is none of need's goes on.
func gaveUp(caught any) api.Errno {
	if caught == nil {
		return api.OK
	}
	return caught.(api.Errno)
}
