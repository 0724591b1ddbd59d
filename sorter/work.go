package sorter

import (
	"slices"

	"warp/api"
	"warp/losers"
	"warp/order"
	"warp/pages"
	"warp/purse"
	"warp/spill"
)

// work is one Sort, and all that it must let go of when it ends.
type work struct {
	store *pages.Store
	purse *purse.Purse
	keys  []api.Key
	held  int           // how much of the purse
	runs  []*spill.File // in the order of their rows, so that rows that stand alike keep theirs
}

// end lets go of all that is left.
func (w *work) end() {
	w.giveAll()
	w.drop(w.runs)
}

// take holds a row.
func (w *work) take(r api.Row) api.Errno {
	n := purse.Row(r)
	if e := w.purse.Take(n); e != api.OK {
		return e
	}
	w.held += n
	return api.OK
}

// give gives back a row that is held.
func (w *work) give(r api.Row) {
	n := purse.Row(r)
	w.purse.Give(n)
	w.held -= n
}

// giveAll gives back all that is held.
func (w *work) giveAll() {
	w.purse.Give(w.held)
	w.held = 0
}

// drop lets go of runs.
func (w *work) drop(runs []*spill.File) {
	for _, f := range runs {
		f.Drop()
	}
}

// split makes runs of rows: whenever no more can be held, of those that are. The last rows are held and left to the caller.
func (w *work) split(rows []api.Row) ([]api.Row, api.Errno) {
	first := 0
	for i, r := range rows {
		e := w.take(r)
		if e != api.OK && first < i {
			if e := w.lay(rows[first:i]); e != api.OK {
				return nil, e
			}
			first = i
			e = w.take(r)
		}
		if e != api.OK {
			return nil, e
		}
	}
	return rows[first:], api.OK
}

// lay makes a run of the rows that are held.
func (w *work) lay(rows []api.Row) api.Errno {
	f, e := spill.Put(w.store, order.Sort(rows, w.keys))
	if e != api.OK {
		return e
	}
	w.runs = append(w.runs, f)
	w.giveAll()
	return api.OK
}

// merged is the rows of all runs.
func (w *work) merged(fan int) ([]api.Row, api.Errno) {
	for len(w.runs) > fan {
		if e := w.pass(fan); e != api.OK {
			return nil, e
		}
	}
	var l []api.Row
	e := w.merge(w.runs, func(r api.Row) api.Errno {
		l = append(l, r)
		return api.OK
	})
	if e != api.OK {
		return nil, e
	}
	return l, api.OK
}

// pass makes one run of each group of runs.
func (w *work) pass(fan int) api.Errno {
	// The groups ahead of i are one run each by now.
	for i := 0; i < len(w.runs); i++ {
		if e := w.join(i, min(i+fan, len(w.runs))); e != api.OK {
			return e
		}
	}
	return api.OK
}

// join makes one run of the runs from one up to another one.
func (w *work) join(from, to int) api.Errno {
	group := w.runs[from:to]
	if len(group) == 1 {
		return api.OK
	}
	out := spill.New(w.store)
	// Once its file is done, nothing is left to cancel.
	defer out.Cancel()
	if e := w.merge(group, out.Add); e != api.OK {
		return e
	}
	f, e := out.Done()
	if e != api.OK {
		return e
	}
	w.drop(group)
	w.runs = slices.Replace(w.runs, from, to, f)
	return api.OK
}

// merge passes on the rows of runs, in order.
func (w *work) merge(runs []*spill.File, pass func(r api.Row) api.Errno) api.Errno {
	cursors, heads := make([]*spill.Cursor, len(runs)), make([]api.Row, len(runs))
	var e api.Errno
	for i, f := range runs {
		cursors[i] = f.Open()
		if heads[i], e = w.next(cursors[i]); e != api.OK {
			return e
		}
	}
	tree, e := losers.New(heads, w.keys)
	if e != api.OK {
		return e
	}
	for i, ok := tree.Next(); ok; i, ok = tree.Next() {
		if e := pass(heads[i]); e != api.OK {
			return e
		}
		w.give(heads[i])
		if heads[i], e = w.next(cursors[i]); e != api.OK {
			return e
		}
		tree.Put(heads[i])
	}
	return api.OK
}

// next is the next row of a run, and holds it; nil: there is none.
func (w *work) next(c *spill.Cursor) (api.Row, api.Errno) {
	r, ok, e := c.Next()
	if !ok {
		return nil, e
	}
	if e := w.take(r); e != api.OK {
		return nil, e
	}
	// Never nil for a row without values, as only nil means that there is no row.
	return append(api.Row{}, r...), api.OK
}
