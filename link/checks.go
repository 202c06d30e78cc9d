package link

import (
	"slices"

	"kilovar/api"
	"kilovar/common"
)

// lastMessage is the greatest number of a message: a block has one byte for it.
const lastMessage = 255

// limit is the limits of one of a frame's numbers; the greatest one may depend on the others.
type limit struct {
	number func(f Frame) int
	least  int
	most   func(f Frame) int
}

// limits returns the limits of a frame's numbers, in the order in which they are examined: Parts before Part, which it limits.
func limits() [3]limit {
	return [3]limit{
		{number: func(f Frame) int { return f.Message }, least: 0, most: func(Frame) int { return lastMessage }},
		{number: func(f Frame) int { return f.Parts }, least: 1, most: func(Frame) int { return MaxParts }},
		{number: func(f Frame) int { return f.Part }, least: 0, most: func(f Frame) int { return f.Parts - 1 }},
	}
}

// CheckFrame returns the first error of a frame, or OK.
func CheckFrame(f Frame) api.Errno {
	for _, l := range limits() {
		if e := common.Within(l.number(f), l.least, l.most(f)); e != api.OK {
			return e
		}
	}
	return common.FailIf(len(f.Bytes) > MaxBytes, api.ErrMany)
}

func checkFrames(l []Frame) api.Errno {
	return common.AtMost(l, MaxQueue, CheckFrame)
}

// CheckSender returns the first error of a sender, or OK.
func CheckSender(s Sender) api.Errno {
	return common.First(
		checkFrames(s.Queue),
		common.Within(s.Acked, 0, len(s.Queue)),
		common.Within(s.Window, 1, MaxWindow),
	)
}

// CheckReceiver returns the first error of a receiver, or OK.
func CheckReceiver(r Receiver) api.Errno {
	return common.First(checkFrames(r.Frames), common.FailIf(r.Taken != len(r.Frames), api.ErrShape))
}

// checkNumber returns the error of a frame's number on the link, or of an answer, or OK.
func checkNumber(number int) api.Errno {
	return common.Within(number, 0, Numbers-1)
}

func checkRounds(l []Round) api.Errno {
	check := common.In(0, MaxWindow-1)
	return common.AtMost(l, MaxRounds, func(r Round) api.Errno {
		return common.First(common.Each(r.Lost, check), common.Each(r.Doubled, check))
	})
}

// CheckStations returns the first error of stations, or OK.
func CheckStations(l []Station) api.Errno {
	names := map[string]bool{}
	return common.AtMost(l, MaxStations, func(s Station) api.Errno {
		known := names[s.Name]
		names[s.Name] = true
		return common.First(
			common.Name(s.Name),
			common.FailIf(known, api.ErrTwice),
			common.Within(s.Priority, 0, MaxPriority),
			common.Within(s.Frames, 0, MaxQueue),
			common.Within(s.Waited, 0, MaxWait),
		)
	})
}

func checkCycle(cycle []bool) api.Errno {
	return common.First(
		common.FailIf(len(cycle) == 0, api.ErrEmpty),
		common.FailIf(len(cycle) > MaxCycle, api.ErrMany),
	)
}

// checkOpen returns ErrNone if no slot of a cycle is open, or OK.
func checkOpen(cycle []bool) api.Errno {
	return common.FailIf(!slices.Contains(cycle, true), api.ErrNone)
}

// checkSlots returns the error of a number of slots, or OK.
func checkSlots(n int) api.Errno {
	return common.Within(n, 0, MaxSlots)
}
