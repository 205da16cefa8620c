package item

import (
	"timekeeper/api"
)

// lookDeep is how deep Of looks for values of other types; v itself is at depth 1.
const lookDeep = 200

// Any returns x as an int, a string or a []any.
func Any(x api.Item) (any, api.Errno) {
	if e := Check(x); e != api.OK {
		return nil, e
	}
	return plain(x), api.OK
}

// plain expects a value that Check has accepted.
func plain(x api.Item) any {
	switch x.Kind {
	case api.Number:
		return x.N
	case api.Text:
		return x.S
	default:
		l := make([]any, len(x.L))
		for i, y := range x.L {
			l[i] = plain(y)
		}
		return l
	}
}

// Of returns the value whose Any is v.
func Of(v any) (x api.Item, e api.Errno) {
	defer func() {
		if fault := recover(); fault != nil {
			x, e = api.Item{}, errorOf(fault)
		}
	}()
	// All types come first, because a wrong one is told rather than a value that is too deep or too great.
	look(v)
	r := room{api.MaxItems}
	return r.build(v, 1), api.OK
}

// errorOf returns the error that build has panicked with, or else that of an assertion that did not hold.
func errorOf(fault any) api.Errno {
	if e, ok := fault.(api.Errno); ok {
		return e
	}
	return api.ErrKind
}

// place identifies a list by its memory.
type place struct {
	first *any
	size  int
}

// look panics if v, or a value in it down to lookDeep, has another type.
// Level by level it visits each list once, and where it is least deep: a list may contain another one many times, or itself, so that there are more paths than could ever be followed.
func look(v any) {
	level := [][]any{{v}}
	seen := map[place]struct{}{}
	for range lookDeep {
		var next [][]any
		for _, l := range level {
			for _, inner := range listsIn(l) {
				p := place{&inner[0], len(inner)}
				if _, ok := seen[p]; !ok {
					seen[p] = struct{}{}
					next = append(next, inner)
				}
			}
		}
		level = next
	}
}

// listsIn returns the elements of l that have elements themselves.
func listsIn(l []any) [][]any {
	var lists [][]any
	for _, v := range l {
		switch v.(type) {
		case int, string:
		default:
			// What is neither has to be a list: a value of any other type panics here.
			if inner := v.([]any); len(inner) > 0 {
				lists = append(lists, inner)
			}
		}
	}
	return lists
}

// build panics with ErrArg where Check would refuse the value, because a list that contains itself could not be built first and checked then.
func (r *room) build(v any, deep int) api.Item {
	l, isList := v.([]any)
	if !r.take(deep, len(l)) {
		panic(api.ErrArg)
	}
	if isList {
		x := api.Item{Kind: api.List, L: make([]api.Item, len(l))}
		for i, w := range l {
			x.L[i] = r.build(w, deep+1)
		}
		return x
	}
	if n, ok := v.(int); ok {
		return Num(n)
	}
	// look has left nothing else.
	return Str(v.(string))
}
