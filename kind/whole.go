package kind

import (
	"slices"

	"prompter/api"
)

// Parts is how many types a whole type may consist of, itself included.
const Parts = 200

// mostLevels is how deep types may be nested on the way to a whole type. It
// also ends the way for a type whose list of parts, in memory, contains itself.
const mostLevels = 20

// Whole returns x with each Ref replaced by the type for which it stands.
func (t Table) Whole(x Type) (Type, api.Errno) {
	left := Parts
	return whole(x, t.Types, mostLevels, &left)
}

// whole is Whole among these aliases, of a type of this many levels at most;
// left is how many more types there may be. A Ref is none of them: what it
// stands for is.
func whole(x Type, aliases []Alias, levels int, left *int) (Type, api.Errno) {
	if levels == 0 {
		return Type{}, api.ErrKind
	}
	if x.Kind == Ref {
		at := standsFor(x, aliases)
		if at < 0 {
			return Type{}, api.ErrNone
		}
		return whole(aliases[at].Type, aliases[:at], levels-1, left)
	}
	if *left == 0 {
		return Type{}, api.ErrSize
	}
	*left--
	var parts []Type
	for _, part := range x.Of {
		p, e := whole(part, aliases, levels-1, left)
		if e != api.OK {
			return Type{}, e
		}
		parts = append(parts, p)
	}
	return Type{x.Kind, x.Most, copiedNames(x.Names), parts}, api.OK
}

// standsFor returns the index of the alias for which a Ref stands; -1 if it is
// not known, as one without exactly one name is not.
func standsFor(x Type, aliases []Alias) int {
	if len(x.Names) != 1 {
		return -1
	}
	return slices.IndexFunc(aliases, func(a Alias) bool { return a.Name == x.Names[0] })
}
