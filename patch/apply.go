package patch

import (
	"inlay/api"
	"inlay/label"
)

// Run returns the bytes that the symbols l are for the input old.
func Run(old []byte, l []api.Symbol) ([]byte, api.Errno) {
	b := make([]byte, len(l))
	for i, s := range l {
		b[i] = s.B
		if !s.Old {
			continue
		}
		if s.At < 0 || s.At >= len(old) {
			return nil, api.ErrLength
		}
		b[i] += old[s.At]
	}
	return b, api.OK
}

// Apply returns what p makes of old.
func Apply(old []byte, p api.Patch) ([]byte, api.Errno) {
	l, e := Symbols(p)
	if e != api.OK {
		return nil, e
	}
	if p.Lifted {
		return applyLifted(old, p.In, l)
	}
	return applyPlain(old, p.In, l)
}

// applyPlain returns the bytes that the symbols l, which are right for inputs of in bytes, are for the input old.
func applyPlain(old []byte, in int, l []api.Symbol) ([]byte, api.Errno) {
	if len(old) != in {
		return nil, api.ErrLength
	}
	return Run(old, l)
}

// applyLifted does that with the form of the code old, and returns the code with the form that comes out.
func applyLifted(old []byte, in int, l []api.Symbol) ([]byte, api.Errno) {
	x, e := label.Lift(old)
	if e != api.OK {
		return nil, api.ErrLabel
	}
	form, e := applyPlain(label.Form(x), in, l)
	if e != api.OK {
		return nil, e
	}
	y, e := label.Read(form)
	if e != api.OK {
		return nil, api.ErrLabel
	}
	return label.Lower(y)
}
