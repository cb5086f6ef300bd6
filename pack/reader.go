package pack

import (
	"bytes"

	"needlebeam/api"
	"needlebeam/value"
)

// The most that is read: bytes of a text that is no value's, and values of a row.
const (
	mostBytes  = 65536
	mostValues = 1000
)

// reader takes things off the front of bytes. What it takes means something
// only if it hasn't gone wrong by the end; so it needn't be asked in between.
type reader struct {
	rest  []byte
	wrong bool
}

// got is what read takes off the front of b, with the bytes behind it in new
// memory; or nothing of that kind, if it isn't packed so.
func got[T any](b []byte, read func(*reader) T) (T, []byte, api.Errno) {
	r := reader{rest: b}
	x := read(&r)
	if r.wrong {
		return nothing[T]()
	}
	return x, bytes.Clone(r.rest), api.OK
}

func nothing[T any]() (T, []byte, api.Errno) {
	var none T
	return none, nil, api.ErrText
}

// must says what has to hold of the bytes.
func (r *reader) must(holds bool) {
	r.wrong = r.wrong || !holds
}

// single takes a byte.
func (r *reader) single() byte {
	if len(r.rest) == 0 {
		r.wrong = true
		return 0
	}
	c := r.rest[0]
	r.rest = r.rest[1:]
	return c
}

func (r *reader) number() uint64 {
	var n uint64
	for shift := 0; shift < numberSize; shift += groupSize {
		c := r.single()
		group := uint64(c & groupBits)
		r.must(group<<shift>>shift == group) // or bits of it stand above all
		n |= group << shift
		if c < moreBit {
			r.must(group > 0 || shift == 0) // or it has a byte more than needed
			return n
		}
	}
	r.wrong = true
	return 0
}

func (r *reader) whole() int64 {
	n := r.number()
	if n&1 == 1 {
		return ^int64(n >> 1)
	}
	return int64(n >> 1)
}

func (r *reader) text(most uint64) string {
	n := r.number()
	if n > most || n > uint64(len(r.rest)) {
		r.wrong = true
		return ""
	}
	s := string(r.rest[:n])
	r.rest = r.rest[n:]
	return s
}

func (r *reader) value() api.Value {
	switch int(r.single()) {
	case api.KNull:
		return value.Null()
	case api.KInt:
		return value.Int(r.whole())
	case api.KText:
		return value.Text(r.text(api.MaxText))
	case api.KBool:
		n := r.single()
		r.must(n <= 1)
		return value.Bool(n == 1)
	}
	r.wrong = true
	return value.Null()
}

func (r *reader) row() []api.Value {
	n := r.number()
	if n > mostValues {
		r.wrong = true
		return nil
	}
	l := make([]api.Value, n)
	for i := range n {
		l[i] = r.value()
	}
	return l
}
