package link

import (
	"math"
	"strings"

	"kilovar/api"
	"kilovar/common"
)

// opening is the word with which a line begins.
const opening = "frame"

// Print returns the text of frames.
func Print(l []Frame) (string, api.Errno) {
	if e := checkFrames(l); e != api.OK {
		return "", e
	}
	return strings.Join(common.Mapped(l, lineOf), ""), api.OK
}

// lineOf returns the line of a frame.
func lineOf(f Frame) string {
	numbers := []int{f.Message, f.Part, f.Parts}
	for _, b := range f.Bytes {
		numbers = append(numbers, int(b))
	}
	return common.Line(opening, numbers...)
}

// Parse returns the frames of a text, and the index of the first line that is wrong.
func Parse(s string) ([]Frame, int, api.Errno) {
	if len(s) > api.MaxText {
		return nil, 0, api.ErrLong
	}
	lines := common.Lines(s)
	var out []Frame
	for i, line := range lines {
		f, ok := frameOf(line)
		if !ok {
			return nil, i, api.ErrSyntax
		}
		out = append(out, f)
	}
	if e := checkFrames(out); e != api.OK {
		return nil, len(lines), e
	}
	return out, 0, api.OK
}

// frameOf returns the frame of a line, whatever its numbers are worth, and whether the line has its form.
func frameOf(line string) (Frame, bool) {
	word, numbers, ok := common.Naturals(line)
	if !ok || word != opening || len(numbers) < 3 {
		return Frame{}, false
	}
	f := Frame{Message: numbers[0], Part: numbers[1], Parts: numbers[2]}
	for _, n := range numbers[3:] {
		if n > math.MaxUint8 {
			return Frame{}, false
		}
		f.Bytes = append(f.Bytes, byte(n))
	}
	return f, true
}
