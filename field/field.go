// Package field is layer 1, numbers and texts in an area of bytes: see shared/doc/01-field.md.
package field

import "cadastre/api"

// most is how many bytes an area has at most.
const most = 4096

// Area is so many bytes.
type Area struct {
	bytes []byte
}

func New(size int) (*Area, api.Errno) {
	if size < 0 || size > most {
		return nil, api.BadRequest
	}
	return &Area{bytes: make([]byte, size)}, api.OK
}

func Of(s string) (*Area, api.Errno) {
	a, e := New(len(s))
	if e != api.OK {
		return nil, e
	}
	copy(a.bytes, s)
	return a, api.OK
}

func (a *Area) Put(at int, width int, n uint32) api.Errno {
	place, ok := a.number(at, width)
	if !ok || n>>(8*width) != 0 {
		return api.BadRequest
	}
	for i := range place {
		place[i] = byte(n >> (8 * (width - 1 - i)))
	}
	return api.OK
}

func (a *Area) Get(at int, width int) (uint32, api.Errno) {
	place, ok := a.number(at, width)
	if !ok {
		return 0, api.BadRequest
	}
	var n uint32
	for _, b := range place {
		n = n<<8 | uint32(b)
	}
	return n, api.OK
}

func (a *Area) PutText(at int, s string) api.Errno {
	place, ok := a.cut(at, len(s))
	if !ok {
		return api.BadRequest
	}
	copy(place, s)
	return api.OK
}

func (a *Area) GetText(at int, size int) (string, api.Errno) {
	place, ok := a.cut(at, size)
	if !ok {
		return "", api.BadRequest
	}
	return string(place), api.OK
}

func (a *Area) Move(to int, from int, size int) api.Errno {
	target, ok := a.cut(to, size)
	if !ok {
		return api.BadRequest
	}
	source, ok := a.cut(from, size)
	if !ok {
		return api.BadRequest
	}
	copy(target, source) // the two may overlap: copy takes the bytes as they were
	return api.OK
}

func (a *Area) Bytes() string {
	if a == nil {
		return ""
	}
	return string(a.bytes)
}

func (a *Area) Size() int {
	if a == nil {
		return 0
	}
	return len(a.bytes)
}

// number is a range that a number may stand in.
func (a *Area) number(at int, width int) ([]byte, bool) {
	switch width {
	case 1, 2, 4:
		return a.cut(at, width)
	}
	return nil, false
}

// cut is a range; its spare room ends with it, so that nothing put there comes beyond it.
func (a *Area) cut(at int, size int) ([]byte, bool) {
	// at + size may be more than an int holds: what is left behind at is not
	if a == nil || at < 0 || size < 0 || size > len(a.bytes)-at {
		return nil, false
	}
	return a.bytes[at : at+size : at+size], true
}
