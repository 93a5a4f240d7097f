package runner

import (
	"slices"
	"strconv"

	"pointsman/plan"
)

// sight is that a cell got a function or a pointer.
type sight struct {
	cell, target plan.Target
}

// entry is that a call through a pointer entered a function.
type entry struct {
	call, function int
}

// seen tells all that was seen, in order of their bytes.
func (m *machine) seen() []string {
	all := make([]string, 0, len(m.points)+len(m.enters))
	for s := range m.points {
		all = append(all, m.program.Text(s.cell)+">"+m.program.Text(s.target))
	}
	for e := range m.enters {
		all = append(all, "!"+strconv.Itoa(e.call)+">"+m.program.Functions[e.function].Name)
	}
	slices.Sort(all)
	return all
}
