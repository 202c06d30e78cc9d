package meter_test

import (
	"strings"
	"testing"

	"kilovar/api"
	"kilovar/meter"
)

// P6.4

const zeros = "import 0 0\nexport 0 0\nq1 0 0\nq2 0 0\nq3 0 0\nq4 0 0\n"

func TestTexts(t *testing.T) {
	for text, m := range map[string]meter.Meter{
		zeros: {},
		"import 1 2\nexport 3 4\nq1 5 6\nq2 7 8\nq3 9 10\nq4 11 12\n": {register(1, 2), register(3, 4), register(5, 6), register(7, 8), register(9, 10), register(11, 12)},
		strings.ReplaceAll(zeros, " 0", " 999999"):                    fullMeter(),
	} {
		s, e := meter.Print(m)
		same(t, "Print", all(s, e), all(text, api.OK))
		got, i, e := meter.Parse(text)
		same(t, "Parse", all(got, i, e), all(m, 0, api.OK))
	}
	for _, wrong := range registerErrors {
		for i := range 6 {
			m := fullMeter()
			m[i] = wrong
			s, e := meter.Print(m)
			same(t, "Print of a wrong meter", all(s, e), all("", api.ErrRange))
		}
	}
}

func checkParsed(t *testing.T, index int, want api.Errno, texts ...string) {
	t.Helper()
	for _, text := range texts {
		m, i, e := meter.Parse(text)
		same(t, "Parse of "+text, all(m, i, e), all(meter.Meter{}, index, want))
	}
}

// withLine returns the text of a meter of zeros with another line at an index.
func withLine(index int, line string) string {
	lines := strings.SplitAfter(zeros, "\n")
	lines[index] = line
	return strings.Join(lines, "")
}

func TestParseOfWrongLines(t *testing.T) {
	for i, name := range []string{"import", "export", "q1", "q2", "q3", "q4"} {
		for _, rest := range []string{
			"", " ", " 0", " 0 ", " 0 0 ", " 0 0 0", " 0 0 x", "  0 0", " 0  0", " 0 0\r", "\t0 0", " 0\t0", " 0\u00a00",
			" 00 0", " 0 00", " 01 0", " 0 01", " -1 0", " 0 -1", " -0 0", " 0 -0", " +1 0", " 0 +1", " x 0", " 0 x", " 0.0 0", " 0x1 0", " 0 1_0", " 0 \u0661", " 0 \xff", " 1000000000 0", " 0 1000000000", " 0 18446744073709551616",
			"x 0 0", "0 0", " import 0 0", " 1000000 0 0", " 1000000 x", // the form of a line before what its numbers are worth
		} {
			text := withLine(i, name+rest+"\n")
			checkParsed(t, i, api.ErrSyntax, text, text+"q5 0 0\n")
		}
		for _, line := range []string{"\n", " \n", "0 0\n", "0 0 0\n", " " + name + " 0 0\n", strings.ToUpper(name) + " 0 0\n", "q0 0 0\n", "q5 0 0\n", "x 0 0\n"} {
			checkParsed(t, i, api.ErrSyntax, withLine(i, line), withLine(i, line)+"x")
		}
	}
	checkParsed(t, 1, api.ErrSyntax, "import 1000000 0\nx\nx", withLine(1, ""), withLine(1, "export 0 x\n\n"))
	checkParsed(t, 5, api.ErrSyntax, withLine(4, "q3 0 1000000\nx\n"))
}

// TestParseOfOtherNames has lines with the names of other registers.
func TestParseOfOtherNames(t *testing.T) {
	names := []string{"import", "export", "q1", "q2", "q3", "q4"}
	for i := range names {
		for k, other := range names {
			if k != i {
				checkParsed(t, i, api.ErrSyntax, withLine(i, other+" 0 0\n"), withLine(i, other+" 1000000 0\n"))
			}
		}
	}
}

func TestParseOfLinesWithoutEnd(t *testing.T) {
	checkParsed(t, 0, api.ErrSyntax, "import 0 0", "x", " ", "\n", "\n"+zeros)
	checkParsed(t, 2, api.ErrSyntax, "import 0 0\nexport 0 0\nq1 0 0", "import 0 0\nexport 0 0\n\n")
	checkParsed(t, 5, api.ErrSyntax, strings.TrimSuffix(zeros, "\n"), "import 1000000 0\nexport 0 0\nq1 0 0\nq2 0 0\nq3 0 0\nq4 0 0")
}

func TestParseOfOtherNumbersOfLines(t *testing.T) {
	checkParsed(t, 6, api.ErrSyntax, zeros+"q5 0 0\n", zeros+"q4 0 0\n", zeros+"import 0 0\n", zeros+zeros, zeros+"\n", zeros+"x", zeros+" ", strings.Replace(zeros, "0", "1000000", 1)+"q5 0 0\n")
	lines := strings.SplitAfter(zeros, "\n")
	for n := range 6 {
		checkParsed(t, n, api.ErrShort, strings.Join(lines[:n], ""), strings.ReplaceAll(strings.Join(lines[:n], ""), "0", "1000000"))
	}
}

func TestParseOfWrongMeters(t *testing.T) {
	for i, name := range []string{"import", "export", "q1", "q2", "q3", "q4"} {
		checkParsed(t, 6, api.ErrRange, withLine(i, name+" 1000000 0\n"), withLine(i, name+" 0 1000000\n"), withLine(i, name+" 999999999 0\n"), withLine(i, name+" 0 999999999\n"))
	}
}

func TestParseOfLongTexts(t *testing.T) {
	checkParsed(t, 6, api.ErrSyntax, zeros+strings.Repeat("x", 4096-len(zeros)))
	checkParsed(t, 0, api.ErrSyntax, strings.Repeat("x", 4096), strings.Repeat("\n", 4096))
	checkParsed(t, 0, api.ErrLong, zeros+strings.Repeat("x", 4097-len(zeros)), strings.Repeat("x", 4097), strings.Repeat("\n", 4097))
}
