package flow

// spot is where a name's value stands: in a register, or in the place of the closure that is run.
type spot struct {
	isHeld bool
	num    int
}

// scope has of each name the spots that were bound to it, the innermost one last.
type scope map[string][]spot

func (s scope) bind(name string, at spot) { s[name] = append(s[name], at) }

func (s scope) leave(names []string) {
	for _, name := range names {
		s[name] = s[name][:len(s[name])-1]
	}
}

func (s scope) spot(name string) spot { return s[name][len(s[name])-1] }
