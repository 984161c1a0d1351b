package kind

import (
	"slices"

	"prompter/api"
)

const (
	mostNumber  = 65535 // of interfaces, versions, faults and procedures: as many as sixteen bits tell
	mostFaults  = 16
	mostTimeout = 1000
)

// Check returns the first error of the table, from its beginning on.
func (t Table) Check() api.Errno {
	switch {
	case !Named(t.Name):
		return api.ErrName
	case !validNumber(t.Number) || !validNumber(t.Version):
		return api.ErrRange
	case len(t.Types) > api.MaxTypes || len(t.Faults) > mostFaults || len(t.Procs) > api.MaxProcs:
		return api.ErrMany
	}
	name := naming()
	if e := t.checkTypes(name); e != api.OK {
		return e
	}
	if e := t.checkFaults(name); e != api.OK {
		return e
	}
	return t.checkProcs(name)
}

// naming returns a function that returns the error of the next name: it
// remembers the names that exist already, and finds them again.
func naming() func(name string) api.Errno {
	var before []string
	return func(name string) api.Errno {
		if !Named(name) {
			return api.ErrName
		}
		if slices.Contains(before, name) {
			return api.ErrTwice
		}
		before = append(before, name)
		return api.OK
	}
}

func (t Table) checkTypes(name func(string) api.Errno) api.Errno {
	for i, a := range t.Types {
		if e := name(a.Name); e != api.OK {
			return e
		}
		if e := right(a.Type, t.Types[:i], api.MaxDeep); e != api.OK {
			return e
		}
	}
	return api.OK
}

func (t Table) checkFaults(name func(string) api.Errno) api.Errno {
	for i, f := range t.Faults {
		if e := name(f.Name); e != api.OK {
			return e
		}
		if !validNumber(f.Number) {
			return api.ErrRange
		}
		if slices.ContainsFunc(t.Faults[:i], func(g Fault) bool { return g.Number == f.Number }) {
			return api.ErrTwice
		}
	}
	return api.OK
}

func (t Table) checkProcs(name func(string) api.Errno) api.Errno {
	for i, p := range t.Procs {
		if e := name(p.Name); e != api.OK {
			return e
		}
		if !validNumber(p.Number) || p.Timeout < 1 || p.Timeout > mostTimeout || p.Collate >= Collators {
			return api.ErrRange
		}
		if slices.ContainsFunc(t.Procs[:i], func(q Proc) bool { return q.Number == p.Number }) {
			return api.ErrTwice
		}
		for _, x := range [...]Type{p.Takes, p.Answers} {
			if e := right(x, t.Types, api.MaxDeep); e != api.OK {
				return e
			}
			if _, e := t.Whole(x); e != api.OK {
				return e
			}
		}
	}
	return api.OK
}

// validNumber reports whether n may number an interface or a part of it.
func validNumber(n int) bool {
	return 0 <= n && n <= mostNumber
}

// right returns the first error of x, from the outermost type on, if the
// names of these aliases are known, and x has this many levels at most.
func right(x Type, known []Alias, levels int) api.Errno {
	switch {
	case x.Kind >= Kinds || levels == 0:
		return api.ErrKind
	case !x.sized():
		return api.ErrRange
	case !x.formed():
		return api.ErrForm
	}
	switch x.Kind {
	case Record, Enum, Choice:
		if e := checkNames(x.Names); e != api.OK {
			return e
		}
	case Ref:
		if standsFor(x, known) < 0 {
			return api.ErrNone
		}
	}
	for _, part := range x.Of {
		if e := right(part, known, levels-1); e != api.OK {
			return e
		}
	}
	return api.OK
}

// sized reports whether x has a greatest length if, and only if, it needs one.
func (x Type) sized() bool {
	switch x.Kind {
	case Text, Seq:
		return 1 <= x.Most && x.Most <= api.MaxLength
	}
	return x.Most == 0
}

// formed reports whether x has as many names and as many types as its kind
// asks for.
func (x Type) formed() bool {
	switch x.Kind {
	case Seq:
		return len(x.Names) == 0 && len(x.Of) == 1
	case Record, Choice:
		return len(x.Of) == len(x.Names)
	case Enum:
		return len(x.Of) == 0
	case Ref:
		return len(x.Names) == 1 && len(x.Of) == 0
	}
	return len(x.Names) == 0 && len(x.Of) == 0
}

// checkNames returns the first error of the names of a Record, an Enum or a
// Choice.
func checkNames(names []string) api.Errno {
	if len(names) < 1 || len(names) > api.MaxNames {
		return api.ErrMany
	}
	name := naming()
	for _, s := range names {
		if e := name(s); e != api.OK {
			return e
		}
	}
	return api.OK
}
