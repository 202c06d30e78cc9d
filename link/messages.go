package link

import (
	"bytes"
	"cmp"
	"slices"

	"kilovar/api"
	"kilovar/common"
)

// header is how many bytes of a block stand before those of its frame.
const header = 4

// Cut returns the frames of a message.
func Cut(number int, message []byte, size int) ([]Frame, api.Errno) {
	e := common.First(
		common.Within(number, 0, lastMessage),
		common.FailIf(len(message) > MaxMessage, api.ErrMany),
		common.Within(size, 1, MaxBytes),
	)
	if e != api.OK {
		return nil, e
	}
	parts := max(1, (len(message)+size-1)/size)
	if parts > MaxParts {
		return nil, api.ErrMany
	}
	var out []Frame
	for part := range parts {
		from := part * size
		piece := message[from:min(from+size, len(message))]
		out = append(out, Frame{Message: number, Part: part, Parts: parts, Bytes: slices.Clone(piece)})
	}
	return out, api.OK
}

// Joined returns the message of frames.
func Joined(l []Frame) ([]byte, api.Errno) {
	if e := common.First(checkFrames(l), common.FailIf(len(l) == 0, api.ErrEmpty)); e != api.OK {
		return nil, e
	}
	if slices.ContainsFunc(l, func(f Frame) bool { return slices.ContainsFunc(l, f.contradicts) }) {
		return nil, api.ErrConflict
	}
	message, whole := joined(l)
	if !whole {
		return nil, api.ErrShort
	}
	return message, api.OK
}

// contradicts reports whether two frames cannot be parts of one message.
func (f Frame) contradicts(g Frame) bool {
	return f.Message != g.Message || f.Parts != g.Parts || f.Part == g.Part && !bytes.Equal(f.Bytes, g.Bytes)
}

// order compares the indices of two frames.
func (f Frame) order(g Frame) int {
	return cmp.Compare(f.Part, g.Part)
}

// joined returns the bytes of frames that do not contradict each other, or false if an index is missing.
func joined(l []Frame) ([]byte, bool) {
	var message []byte
	next := 0
search:
	for _, f := range slices.SortedStableFunc(slices.Values(l), Frame.order) {
		switch f.Part {
		case next:
			message = append(message, f.Bytes...)
			next++
		case next - 1: // once more the one before
		default:
			break search
		}
	}
	if next < l[0].Parts {
		return nil, false
	}
	return message, true
}

// Packed returns the block of a frame.
func Packed(f Frame) (api.Block, api.Errno) {
	if e := CheckFrame(f); e != api.OK {
		return api.Block{}, e
	}
	return f.block(), api.OK
}

// block returns the block of a frame that has no error: of two different frames it differs.
func (f Frame) block() api.Block {
	b := api.Block{byte(f.Message), byte(f.Part), byte(f.Parts), byte(len(f.Bytes))}
	copy(b[header:], f.Bytes)
	return b
}

// Unpacked returns the frame of a block.
func Unpacked(b api.Block) (Frame, api.Errno) {
	many := min(int(b[3]), MaxBytes)
	f := Frame{Message: int(b[0]), Part: int(b[1]), Parts: int(b[2]), Bytes: slices.Clone(b[header : header+many])}
	if CheckFrame(f) != api.OK || f.block() != b {
		return Frame{}, api.ErrForm
	}
	return f, api.OK
}

// copyOf returns the same frame in new memory.
func copyOf(f Frame) Frame {
	f.Bytes = slices.Clone(f.Bytes)
	return f
}
