package link_test

import (
	"strings"
	"testing"

	"kilovar/api"
	"kilovar/link"
)

// P4.4

func TestTexts(t *testing.T) {
	for _, x := range []struct {
		l    []link.Frame
		text string
	}{
		{nil, ""}, {frames(frame(9, 1, 2, 7)), "frame 9 1 2 7\n"}, {frames(frame(9, 0, 2, 5, 6), frame(9, 1, 2)), "frame 9 0 2 5 6\nframe 9 1 2\n"},
		{frames(frame(0, 0, 1), frame(0, 0, 1), frame(7, 2, 3, 0)), "frame 0 0 1\nframe 0 0 1\nframe 7 2 3 0\n"}, // they need not be of one message
		{frames(frame(255, 63, 64, repeated(byte(255), 12)...)), "frame 255 63 64" + strings.Repeat(" 255", 12) + "\n"},
	} {
		text, e := link.Print(x.l)
		same(t, "Print", all(text, e), all(x.text, api.OK))
		l, i, e := link.Parse(x.text)
		same(t, "Parse", all(l, i, e), all(x.l, 0, api.OK))
	}
	for _, x := range framesErrors() {
		text, e := link.Print(x.l)
		same(t, "Print with errors", all(text, e), all("", x.e))
	}
}

func TestTheLongestText(t *testing.T) {
	l := repeated(frame(255, 63, 64, repeated(byte(200), 12)...), 64)
	text, e := link.Print(l)
	same(t, "Print", all(len(text), e), all(4096, api.OK))
	got, i, e := link.Parse(text)
	same(t, "Parse", all(got, i, e), all(l, 0, api.OK))
}

func checkParsed(t *testing.T, index int, want api.Errno, texts ...string) {
	t.Helper()
	for _, text := range texts {
		l, i, e := link.Parse(text)
		same(t, "Parse of "+text, all(l, i, e), all(frames(), index, want))
	}
}

func TestParseOfWrongLines(t *testing.T) {
	for _, line := range []string{
		"", " ", "frame", "frame ", "frame 9", "frame 9 1", "frame 9 1 ", "9 1 2", "frames 9 1 2", "Frame 9 1 2", "fram 9 1 2", "word 9 1 2", "frame9 1 2", " frame 9 1 2", "frame frame 9 1 2", "frame 9 1 2 frame",
		"frame  9 1 2", "frame 9  1 2", "frame 9 1  2", "frame 9 1 2 ", "frame 9 1 2  7", "frame 9 1 2 7 ", "frame\t9 1 2", "frame 9 1\t2", "frame 9 1 2\r", "frame 9 1 2 7\r", "frame 9\u00a01 2",
		"frame 09 1 2", "frame 9 01 2", "frame 9 1 02", "frame 9 1 2 07", "frame 9 1 2 00", "frame 00 0 1", "frame -9 1 2", "frame 9 -1 2", "frame 9 1 -2", "frame 9 1 2 -7", "frame 9 1 2 -0", "frame -0 1 2", "frame 9 1 2 -", "frame +9 1 2", "frame 9 1 2 +7",
		"frame 9 1 2 256", "frame 9 1 2 7 256 7", "frame 9 1 2 300", "frame 9 1 2 999999999", "frame 9 1 2 1000000000", "frame 1000000000 1 2", "frame 9 1000000000 2", "frame 9 1 1000000000", "frame 9 1 2 18446744073709551623",
		"frame x 1 2", "frame 9 x 2", "frame 9 1 x", "frame 9 1 2 x", "frame 9 1 2 7 x 7", "frame 9 1 2 7.0", "frame 9 1 2 0x7", "frame 9 1 2 1_0", "frame 9 1 2 \u0667", "frame 9 1 2 \xff", "frame 9 1 2 7\x00",
		"frame 256 1 x", "frame 9 2 2 256", "frame 0 0 0 1 2 3 4 5 6 7 8 9 10 11 12 13 256", // the form of a line before what its frame is worth
	} {
		checkParsed(t, 0, api.ErrSyntax, line+"\n", line+"\nframe 9 1 2\n", line+"\nx\n")
		checkParsed(t, 1, api.ErrSyntax, "frame 9 1 2\n"+line+"\n", "frame 9 2 2\n"+line+"\nframe 9 1 2\n", "frame 256 2 2\n"+line+"\nx\n")
	}
}

func TestParseOfLinesWithoutEnd(t *testing.T) {
	checkParsed(t, 0, api.ErrSyntax, "frame 9 1 2", "frame 9 1 2 7", "x", " ", "frame 9 2 2", "\n", "\n\n", "\nframe 9 1 2\n")
	checkParsed(t, 1, api.ErrSyntax, "frame 9 1 2\nframe 9 1 2", "frame 9 1 2\n ", "frame 9 1 2\n\n", "frame 9 2 2\nx", "frame 9 1 2\n\nframe 9 1 2\n")
	checkParsed(t, 2, api.ErrSyntax, "frame 9 0 2\nframe 9 1 2\nframe", strings.Repeat("frame 9 1 2\n", 2)+"\n")
	checkParsed(t, 64, api.ErrSyntax, strings.Repeat("frame 9 1 2\n", 64)+"frame 9 1 2", strings.Repeat("frame 9 1 2\n", 64)+"x\n")
}

func TestParseOfWrongFrames(t *testing.T) {
	checkParsed(t, 1, api.ErrRange, "frame 256 0 1\n", "frame 999999999 0 1\n", "frame 0 0 0\n", "frame 0 0 65\n", "frame 0 1 1\n", "frame 9 2 2\n", "frame 9 999999999 2\n", "frame 9 1 999999999\n", "frame 256 0 1 1 2 3 4 5 6 7 8 9 10 11 12 13\n")
	checkParsed(t, 1, api.ErrMany, "frame 9 1 2 1 2 3 4 5 6 7 8 9 10 11 12 13\n", "frame 9 1 2"+strings.Repeat(" 0", 2000)+"\n")
	checkParsed(t, 3, api.ErrRange, "frame 9 0 2\nframe 9 2 2\nframe 9 1 2 1 2 3 4 5 6 7 8 9 10 11 12 13\n")
	checkParsed(t, 3, api.ErrMany, "frame 9 0 2\nframe 9 1 2 1 2 3 4 5 6 7 8 9 10 11 12 13\nframe 9 2 2\n")
	checkParsed(t, 65, api.ErrMany, strings.Repeat("frame 9 1 2\n", 65), strings.Repeat("frame 9 2 2\n", 65))
	l, i, e := link.Parse(strings.Repeat("frame 9 1 2\n", 64))
	same(t, "Parse of as many frames as there may be", all(len(l), i, e), all(64, 0, api.OK))
}

func TestParseOfLongTexts(t *testing.T) {
	text := "frame 9 1 2" + strings.Repeat(" 7", 2042) + "\n"
	same(t, "the length", len(text), 4096)
	checkParsed(t, 1, api.ErrMany, text)
	checkParsed(t, 0, api.ErrSyntax, strings.Repeat("x", 4096), strings.Repeat("\n", 4096))
	checkParsed(t, 0, api.ErrLong, "frame 91 1 2"+strings.Repeat(" 7", 2042)+"\n", strings.Repeat("x", 4097), strings.Repeat("\n", 4097), text+text)
}
