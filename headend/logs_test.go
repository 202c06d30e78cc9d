package headend_test

import (
	"math/rand"
	"slices"
	"strconv"
	"strings"
	"testing"

	"kilovar/api"
	"kilovar/headend"
)

// P10.4: Append and Recover

// sumOf returns the checksum of a string.
func sumOf(s string) string {
	x := int64(1)
	for i := range len(s) {
		x = (x*359 + int64(s[i])) % 9999631
	}
	digits := strconv.FormatInt(x, 10)
	return strings.Repeat("0", 7-len(digits)) + digits
}

// recordOf returns the record with a body.
func recordOf(body string) string { return body + "#" + sumOf(body) + "\n" }

// bodyOf returns the body of an event.
func bodyOf(e api.Event) string {
	body := strconv.Itoa(e.Number) + " " + e.Kind
	for _, name := range e.Names {
		body += " " + name
	}
	for _, v := range e.Values {
		body += " " + strconv.Itoa(v)
	}
	return body
}

// logOf returns the log of events.
func logOf(l []api.Event) string {
	var s strings.Builder
	for _, e := range l {
		s.WriteString(recordOf(bodyOf(e)))
	}
	return s.String()
}

func TestChecksum(t *testing.T) {
	same(t, "the checksums of the examples", all(sumOf(""), sumOf("1"), sumOf("11")), all("0000001", "0000408", "0146521"))
	same(t, "a record", all(headend.Append("", eventOf(1, "office a 0"))), all(recordOf("1 office a 0"), api.OK))
	for _, x := range []struct {
		log string
		e   api.Errno
	}{{"#0000001\n", api.ErrSyntax}, {"1#0000408\n", api.ErrSyntax}, {"11#0146521\n", api.ErrSyntax}, {"#0000000\n", api.ErrCheck}, {"1#0000409\n", api.ErrCheck}, {"11#0146522\n", api.ErrCheck}, {"12#0146521\n", api.ErrCheck}, {"\xff#0000614\n", api.ErrSyntax}} {
		same(t, "a checksum", all(headend.Recover(x.log)), all([]api.Event{}, 0, x.e))
	}
}

func TestRecover(t *testing.T) {
	log := logOf(shown())
	same(t, "a log", all(headend.Recover(log)), all(shown(), len(log), api.OK))
	same(t, "an empty log", all(headend.Recover("")), all([]api.Event{}, 0, api.OK))
	first := logOf(shown()[:2])
	for _, x := range []struct {
		rest string
		e    api.Errno
	}{
		{"3", api.ErrTorn}, {" ", api.ErrTorn}, {"\x00", api.ErrTorn}, {strings.TrimSuffix(recordOf("3 meter m 0"), "\n"), api.ErrTorn}, {"3 meter m 0#", api.ErrTorn}, {"nothing#0000001", api.ErrTorn},
		{"\n", api.ErrSyntax}, {"\n\n", api.ErrSyntax}, {"3 meter m 0\n", api.ErrSyntax}, {"3 meter m 0#\n", api.ErrSyntax}, {"0000001\n", api.ErrSyntax}, {"#000001\n", api.ErrSyntax}, {"3 meter m 0#00000001\n", api.ErrSyntax}, {"3 meter m 0#000000a\n", api.ErrSyntax}, {"3 meter m 0#-000001\n", api.ErrSyntax}, {"3 meter m 0# 000001\n", api.ErrSyntax}, {"3 meter m 0:0000001\n", api.ErrSyntax}, {"3 meter m 0#00000\u0661\n", api.ErrSyntax},
		{strings.Replace(recordOf("3 meter m 0"), "\n", "\r\n", 1), api.ErrSyntax}, {strings.Replace(recordOf("3 meter m 0"), "\n", " \n", 1), api.ErrSyntax},
		{"3 meter m 0#0000000\n", api.ErrCheck}, {"nothing#0000000\n", api.ErrCheck}, {"4 meter m 0#0000000\n", api.ErrCheck},
		{recordOf("4 meter m 0"), api.ErrOrder}, {recordOf("2 meter m 0"), api.ErrOrder}, {recordOf("1 meter m 0"), api.ErrOrder}, {recordOf("1000 meter m 0"), api.ErrOrder},
		{recordOf("3 meter m 0")[1:], api.ErrCheck}, {recordOf("4 meter m 0") + "3", api.ErrOrder}, {recordOf("4 meters m 0") + recordOf("3 meter m 0"), api.ErrSyntax},
	} {
		same(t, "Recover with "+strconv.Quote(x.rest), all(headend.Recover(first+x.rest)), all(shown()[:2], len(first), x.e))
	}
}

// TestBodiesThatAreNone has bodies with their checksums.
func TestBodiesThatAreNone(t *testing.T) {
	for _, body := range []string{"", " ", "1", "1 ", "office a 0", "a office a 0", "01 office a 0", "+1 office a 0", "-1 office a 0", "1  office a 0", " 1 office a 0", "1 office a 0 ", "1 office  a 0", "1 office a  0", "1\toffice a 0", "1 office a", "1 office 0", "1 office a 0 0", "1 office a b 0", "1 office 0 a", "1 office a 00", "1 office a -0", "1 office a +0", "1 office a -1", "1 office a 0x1", "1 office a 1_0", "1 office a 1000000000", "1 office a 0000000001", "1 office a 99999999999999999999", "1 office a \u0661", "1 office 1a 0", "1 office _ 0", "1 office a# 0", "1 office a#0", "1 office " + strings.Repeat("a", 25) + " 0", "1 offices a 0", "1 Office a 0", "1 undo 1", "1 undo a", "1 undo ", "0 office a 0", "1001 office a 0", "1000000000 undo", "1 office a 0\r", "1 credit m", "1 due r 1 20", "1 due r m 1", "1 tariff t 1 2", "1 office a 0#0000001"} {
		same(t, "the body "+strconv.Quote(body), all(headend.Recover(recordOf(body))), all([]api.Event{}, 0, api.ErrSyntax))
	}
	for _, body := range []string{"1 office a 0", "1 office a 999999999", "1 undo", "1 due r m 1 20", "1 due r m 20 1", "1 tariff t 1 2 999999999", "1 route q 5 16", "1 office " + strings.Repeat("a", 24) + " 0"} { // whether an event is accepted is not asked here
		same(t, "the body "+body, all(headend.Recover(recordOf(body))), all([]api.Event{eventOf(1, body[2:])}, len(body)+9, api.OK))
	}
}

func TestAppend(t *testing.T) {
	log := ""
	for i, e := range shown() {
		next, wrong := headend.Append(log, e)
		same(t, "Append", all(next, wrong), all(logOf(shown()[:i+1]), api.OK))
		log = next
	}
	for n := range 11 {
		want := api.ErrOrder
		switch n {
		case 0:
			want = api.ErrRange
		case 8:
			want = api.OK
		}
		same(t, "the number "+strconv.Itoa(n), errorOf(headend.Append(log, eventOf(n, "undo"))), want)
	}
	same(t, "an event that is not accepted", all(headend.Append("", eventOf(1, "undo"))), all(recordOf("1 undo"), api.OK))
	for _, x := range []struct {
		log  string
		e    api.Event
		want api.Errno
	}{
		{log[:len(log)-1], eventOf(7, "undo"), api.ErrTorn}, {log + "8", api.Event{}, api.ErrTorn}, {log + "\n", api.Event{}, api.ErrSyntax}, {log + "#0000000\n", eventOf(8, "undo"), api.ErrCheck}, {log + log, eventOf(8, "undo"), api.ErrOrder}, {strings.Repeat("a", 1000001), api.Event{}, api.ErrLong},
		{log, api.Event{}, api.ErrRange}, {log, eventOf(9, "undos"), api.ErrKind}, {log, eventOf(9, "undo 1"), api.ErrShape}, {log, api.Event{Number: 9, Kind: "office", Names: []string{"a b"}, Values: ints(0)}, api.ErrName}, {log, api.Event{Number: 9, Kind: "office", Names: []string{"a"}, Values: ints(-1)}, api.ErrRange}, {log, api.Event{Number: 9, Kind: "undo", Text: "x"}, api.ErrForm},
	} {
		same(t, "a wrong log or event", all(headend.Append(x.log, x.e)), all("", x.want))
	}
}

// errorOf returns the error beside a result.
func errorOf(_ string, e api.Errno) api.Errno { return e }

func TestLongLogs(t *testing.T) {
	same(t, "too long", all(headend.Recover(strings.Repeat("a", 1000001))), all([]api.Event{}, 0, api.ErrLong))
	same(t, "too long, though it begins with a log", all(headend.Recover(logOf(shown())+strings.Repeat("\n", 1000000))), all([]api.Event{}, 0, api.ErrLong))
	log := logOf(shown())
	same(t, "the longest rest", all(headend.Recover(log+strings.Repeat("a", 1000000-len(log)))), all(shown(), len(log), api.ErrTorn))
	same(t, "line feeds alone", all(headend.Recover(strings.Repeat("\n", 1000000))), all([]api.Event{}, 0, api.ErrSyntax))
	same(t, "digits alone", all(headend.Recover(recordOf(strings.Repeat("1", 1000)))), all([]api.Event{}, 0, api.ErrSyntax))
	full := fullJournal(1000)
	log = logOf(full)
	same(t, "all events that there may be", all(headend.Recover(log)), all(full, len(log), api.OK))
	same(t, "one more", all(headend.Recover(log+recordOf("1001 undo"))), all(full, len(log), api.ErrSyntax))
	same(t, "one more to append", all(headend.Append(log, eventOf(1001, "undo"))), all("", api.ErrRange))
	same(t, "the last one to append", all(headend.Append(logOf(full[:999]), full[999])), all(log, api.OK))
}

// TestRandomLogs prints journals, cuts them off, and reads them.
func TestRandomLogs(t *testing.T) {
	r := rand.New(rand.NewSource(7))
	for range 30 {
		l := randomJournal(r, 60)
		log := logOf(l)
		same(t, "Recover", all(headend.Recover(log)), all(l, len(log), api.OK))
		at := r.Intn(len(log))
		n := strings.Count(log[:at], "\n")
		whole := len(logOf(l[:n]))
		want := api.ErrTorn
		if whole == at {
			want = api.OK
		}
		same(t, "Recover of a part", all(headend.Recover(log[:at])), all(slices.Clone(l[:n]), whole, want))
	}
}
