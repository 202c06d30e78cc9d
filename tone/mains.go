package tone

import (
	"slices"

	"kilovar/api"
	"kilovar/common"
)

// The states of a load.
const (
	on  = "on"
	off = "off"
	may = "may"
)

// states has all states of loads.
var states = [3]string{on, off, may}

// CheckMains returns the first error of mains, or OK.
func CheckMains(m Mains) api.Errno {
	return common.First(
		common.Within(m.Carriers, 1, MaxCarriers),
		checkFactors(m.Cross, m.Carriers),
		checkNodes(m.Nodes, m.Carriers),
		common.AtMost(m.Loads, MaxLoads, func(l Load) api.Errno { return checkLoad(m, l) }),
	)
}

func checkFactors(l []api.Gauss, carriers int) api.Errno {
	if len(l) != carriers {
		return api.ErrShape
	}
	return common.Each(l, checkFactor)
}

func checkFactor(x api.Gauss) api.Errno {
	return common.First(
		common.Within(x.Re, -MaxFactor, MaxFactor),
		common.Within(x.Im, -MaxFactor, MaxFactor),
		common.FailIf(x == api.Gauss{}, api.ErrZero),
	)
}

func checkNodes(nodes []Node, carriers int) api.Errno {
	names := map[string]bool{}
	i := -1
	return common.Some(nodes, MaxNodes, func(n Node) api.Errno {
		i++
		known := names[n.Name]
		names[n.Name] = true
		return common.First(
			common.Name(n.Name),
			common.FailIf(known, api.ErrTwice),
			checkPlace(nodes[:i], n, carriers),
		)
	})
}

// checkPlace returns the first error of what a node has beside its name, or OK; the nodes before it have none.
func checkPlace(before []Node, n Node, carriers int) api.Errno {
	if len(before) == 0 {
		return common.FailIf(n.Up != 0 || n.Phase != 0 || len(n.Factors) > 0, api.ErrRule)
	}
	if e := common.Index(n.Up, len(before)); e != api.OK {
		return e
	}
	return common.First(
		common.Within(n.Phase, 1, 3),
		common.FailIf(n.Up != 0 && n.Phase != before[n.Up].Phase, api.ErrConflict),
		checkFactors(n.Factors, carriers),
	)
}

func checkLoad(m Mains, l Load) api.Errno {
	return common.First(common.Index(l.Node, len(m.Nodes)), checkState(l.State), checkFactors(l.Factors, m.Carriers))
}

func checkState(state string) api.Errno {
	for _, s := range states {
		if s == state {
			return api.OK
		}
	}
	return api.ErrKind
}

// Switched returns mains with another state of a load.
func Switched(m Mains, load int, state string) (Mains, api.Errno) {
	if e := common.First(CheckMains(m), common.Index(load, len(m.Loads)), checkState(state)); e != api.OK {
		return Mains{}, e
	}
	out := copyOf(m)
	out.Loads[load].State = state
	return out, api.OK
}

// copyOf returns the same mains in new memory.
func copyOf(m Mains) Mains {
	m.Cross = slices.Clone(m.Cross)
	m.Nodes = common.Mapped(m.Nodes, func(n Node) Node {
		n.Factors = slices.Clone(n.Factors)
		return n
	})
	m.Loads = common.Mapped(m.Loads, func(l Load) Load {
		l.Factors = slices.Clone(l.Factors)
		return l
	})
	return m
}
