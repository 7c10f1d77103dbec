package crate

import (
	"strings"

	"pilcrow/api"
	"pilcrow/block"
	"pilcrow/scalar"
)

// Writer writes a crate block by block.
type Writer struct {
	codec, size int
	begun       bool     // the head is told
	closed      bool     // the end is told
	held        []uint32 // of the block that isn't full yet
	sums        totals   // of the blocks that are told
}

// NewWriter: one that has no scalars yet.
func NewWriter(number, size int) (*Writer, api.Errno) {
	if err := wrong(number, size); err != api.OK {
		return nil, err
	}
	return &Writer{codec: number, size: size}, api.OK
}

// Add: more scalars; the bytes that they make.
func (w *Writer) Add(l ...uint32) (string, api.Fail) {
	if w.closed {
		return "", api.Fail{Err: api.ErrMore}
	}
	if at := scalar.First(l...); at >= 0 {
		return "", api.Fail{Err: api.ErrScalar, At: at}
	}
	var all strings.Builder
	all.WriteString(w.begin())
	for len(l) > 0 {
		n := min(w.size-len(w.held), len(l))
		w.held = append(w.held, l[:n]...)
		l = l[n:]
		if len(w.held) == w.size {
			all.WriteString(w.block())
		}
	}
	return all.String(), api.Fail{}
}

// Close: the bytes that are left.
func (w *Writer) Close() (string, api.Errno) {
	if w.closed {
		return "", api.ErrMore
	}
	w.closed = true
	all := w.begin()
	if len(w.held) > 0 {
		all += w.block()
	}
	w.held = nil
	return all + w.sums.end(), api.OK
}

// begin: the head, if it isn't told yet.
func (w *Writer) begin() string {
	if w.begun {
		return ""
	}
	w.begun = true
	return head(w.codec, w.size)
}

// block: the bytes of a block of what is held, which is no more then.
func (w *Writer) block() string {
	// Of 1 to MaxBlock scalars no codec makes more than MaxBytes: what is held
	// is a block in any case.
	b, _ := block.Make(w.codec, w.held...)
	text, _ := block.Bytes(b)
	w.sums.add(b)
	w.held = w.held[:0]
	return text
}
