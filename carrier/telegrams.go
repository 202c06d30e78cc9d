package carrier

import "kilovar/api"

// counters is the number of counters of a station: 0 follows the last one.
const counters = 65536

// The places of the parts of a frame behind its mark.
const (
	payloadAt    = 6
	complementAt = 22
	sealAt       = 24
)

// frameOf returns the frame of a telegram; of numbers that are out of their ranges it keeps the lowest bytes.
func frameOf(key api.Key, t Telegram) [Size]byte {
	high, low := byte(t.Station>>8), byte(t.Station)
	f := [Size]byte{Mark, high, low, byte(t.Counter >> 8), byte(t.Counter), byte(t.Kind)}
	copy(f[payloadAt:], t.Payload[:])
	f[complementAt], f[complementAt+1] = 255-high, 255-low
	seal := sealOf(key, f[:sealAt])
	copy(f[sealAt:], seal[:])
	return f
}

// telegramOf returns the telegram of which the frame has these numbers and this payload.
func telegramOf(f [Size]byte) Telegram {
	return Telegram{
		Station: int(f[1])<<8 + int(f[2]),
		Counter: int(f[3])<<8 + int(f[4]),
		Kind:    int(f[5]),
		Payload: api.Block(f[payloadAt:complementAt]),
	}
}

// checkTelegram returns the error of a telegram, or OK: exactly those with numbers in their ranges come back from their frames.
func checkTelegram(t Telegram) api.Errno {
	return failIf(telegramOf(frameOf(api.Key{}, t)) != t, api.ErrRange)
}

// Encode returns the frame of a telegram.
func Encode(key api.Key, t Telegram) ([Size]byte, api.Errno) {
	if e := checkTelegram(t); e != api.OK {
		return [Size]byte{}, e
	}
	return frameOf(key, t), api.OK
}

// Decode returns the telegram of a frame.
func Decode(key api.Key, s [Size]byte) (Telegram, api.Errno) {
	if s[0] != Mark {
		return Telegram{}, api.ErrForm
	}
	// All bytes but the complement and the seal are in the telegram: only these two can differ.
	t := telegramOf(s)
	if frameOf(key, t) != s {
		return Telegram{}, api.ErrCheck
	}
	return t, api.OK
}

// Received returns the telegrams of a stream, and the spans of all bytes that are skipped.
func Received(key api.Key, s []byte) ([]Telegram, []api.Span, api.Errno) {
	if len(s) > MaxTelegrams*Size {
		return nil, nil, api.ErrLong
	}
	var telegrams []Telegram
	var skipped []api.Span
	for at := 0; at < len(s); {
		if t, ok := telegramAt(key, s[at:]); ok {
			telegrams = append(telegrams, t)
			at += Size
			continue
		}
		skipped = withSkipped(skipped, at)
		at++
	}
	return telegrams, skipped, api.OK
}

// telegramAt returns the telegram whose frame is at the beginning of some bytes, and whether there is one.
func telegramAt(key api.Key, s []byte) (Telegram, bool) {
	if len(s) < Size {
		return Telegram{}, false
	}
	t, e := Decode(key, [Size]byte(s))
	return t, e == api.OK
}

// withSkipped returns spans with one more byte, which joins the last span if it touches it.
func withSkipped(spans []api.Span, at int) []api.Span {
	if n := len(spans); n > 0 && spans[n-1].To == at {
		spans[n-1].To++
		return spans
	}
	return append(spans, api.Span{From: at, To: at + 1})
}

// Lost returns the counters of a station that are lost.
func Lost(l []Telegram, station int) ([]int, api.Errno) {
	if e := first(checkList(l, MaxTelegrams, checkTelegram), within(station, 0, counters-1)); e != api.OK {
		return nil, e
	}
	var lost []int
	expected := -1 // before the first telegram of the station none is
search:
	for _, t := range l {
		if t.Station != station {
			continue
		}
		for expected >= 0 && expected != t.Counter {
			lost = append(lost, expected)
			if len(lost) > api.MaxList {
				break search // what else is lost does not matter, and may be much
			}
			expected = (expected + 1) % counters
		}
		expected = (t.Counter + 1) % counters
	}
	if len(lost) > api.MaxList {
		return nil, api.ErrMany
	}
	return lost, api.OK
}
