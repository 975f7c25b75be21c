package pack

import (
	"bytes"

	"inlay/api"
)

// listOf returns the list of operations, which must be right.
func listOf(ops []api.Op) []byte {
	w := &writer{}
	for _, o := range ops {
		w.put(oneByte, o.Kind)
		switch o.Kind {
		case api.Copy, api.Diff:
			w.put(sizeBytes, o.From, o.Len)
		case api.Run:
			w.put(sizeBytes, o.Len)
			w.put(oneByte, int(o.B))
		case api.Lit:
			w.put(sizeBytes, o.Len)
		}
	}
	return w.written
}

// dataOf returns the data of operations.
func dataOf(ops []api.Op) []byte {
	w := &writer{}
	for _, o := range ops {
		w.add(o.Data)
	}
	return w.written
}

// readOp reads an operation. It need not be right, and has nothing but its kind if there are none of this kind.
func readOp(list, data *reader) api.Op {
	o := api.Op{Kind: list.number(oneByte)}
	switch o.Kind {
	case api.Copy, api.Diff:
		o.From = list.number(sizeBytes)
		o.Len = list.number(sizeBytes)
	case api.Run:
		o.Len = list.number(sizeBytes)
		o.B = byte(list.number(oneByte))
	case api.Lit:
		o.Len = list.number(sizeBytes)
	}
	if o.Kind == api.Diff || o.Kind == api.Lit {
		o.Data = bytes.Clone(data.take(o.Len)) // so that operations share no memory
	}
	return o
}
