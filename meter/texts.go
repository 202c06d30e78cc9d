package meter

import (
	"strings"

	"kilovar/api"
	"kilovar/common"
)

// names are the names of the registers.
var names = [Registers]string{"import", "export", "q1", "q2", "q3", "q4"}

// Print returns the text of a meter.
func Print(m Meter) (string, api.Errno) {
	if e := CheckMeter(m); e != api.OK {
		return "", e
	}
	var text strings.Builder
	for i, r := range m {
		text.WriteString(common.Line(names[i], r.Units, r.Rest))
	}
	return text.String(), api.OK
}

// Parse returns the meter of a text, and the index of the first line that is wrong.
func Parse(s string) (Meter, int, api.Errno) {
	if len(s) > api.MaxText {
		return Meter{}, 0, api.ErrLong
	}
	var out Meter
	lines := common.Lines(s)
	for i, line := range lines {
		r, ok := registerOf(line, i)
		if !ok {
			return Meter{}, i, api.ErrSyntax
		}
		out[i] = r
	}
	if e := common.First(common.FailIf(len(lines) < Registers, api.ErrShort), CheckMeter(out)); e != api.OK {
		return Meter{}, len(lines), e
	}
	return out, 0, api.OK
}

// registerOf returns the register of the line with an index, whatever its numbers are worth, and whether the line has its form.
func registerOf(line string, index int) (Register, bool) {
	name, numbers, ok := common.Naturals(line)
	if !ok || index >= Registers || name != names[index] || len(numbers) != 2 {
		return Register{}, false
	}
	return Register{Units: numbers[0], Rest: numbers[1]}, true
}
