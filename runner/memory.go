package runner

import (
	"pointsman/api"
	"pointsman/plan"
)

// valueKind is the kind of what a cell holds.
type valueKind int

const (
	nothing valueKind = iota
	code
	pointer
)

// value is what a cell holds: the number of a function, or a cell's address.
type value struct {
	kind   valueKind
	number int
}

// cell is a cell, with the name by which what is seen tells it.
type cell struct {
	name  plan.Target
	holds value
}

// set lets a cell hold a value. No cell ever gets one elsewhere, so all that
// can be seen of cells is seen here.
func (m *machine) set(address int, v value) {
	m.memory[address].holds = v
	name := m.memory[address].name
	switch v.kind {
	case code:
		m.points[sight{name, plan.Target{Kind: plan.Code, Owner: v.number}}] = struct{}{}
	case pointer:
		m.points[sight{name, m.memory[v.number].name}] = struct{}{}
	}
}

// makeFields makes the fields of a new side by side, so that each is found
// from the first one, and points to that.
func (m *machine) makeFields(place int) value {
	first := len(m.memory)
	for field := range api.Fields {
		m.memory = append(m.memory, cell{name: plan.Target{Kind: plan.Field, Owner: place, Index: field}})
	}
	return value{pointer, first}
}

// pointed tells the address that the cell at source points to; if it points to
// none, the run is trapped.
func (m *machine) pointed(source int) (int, bool) {
	held := m.memory[source].holds
	if held.kind != pointer {
		m.end = api.Trapped
		return 0, false
	}
	return held.number, true
}

func (m *machine) takeField(target int, source int, field int) {
	address, points := m.pointed(source)
	if !points {
		return
	}
	if name := m.memory[address].name; name.Kind != plan.Field || name.Index != 0 {
		m.end = api.Trapped
		return
	}
	m.set(target, value{pointer, address + field})
}

func (m *machine) load(target int, source int) {
	if address, points := m.pointed(source); points {
		m.set(target, m.memory[address].holds)
	}
}

func (m *machine) store(target int, source int) {
	if address, points := m.pointed(target); points {
		m.set(address, m.memory[source].holds)
	}
}
