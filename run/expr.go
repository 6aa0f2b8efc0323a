package run

import (
	"slices"

	"tribune/api"
	"tribune/query"
	"tribune/value"
)

// expr works out an expr.
func (w *worker) expr(n *query.Node) value.Value {
	ways := [...]func(*worker, *query.Node) value.Value{
		query.Column:   (*worker).column,
		query.Constant: (*worker).constant,
		query.Now:      (*worker).clock,
		query.Plus:     (*worker).plus,
		query.Minus:    (*worker).minus,
		query.Times:    (*worker).times,
		query.CountAll: (*worker).countAll,
		query.Count:    (*worker).countSome,
		query.Sum:      (*worker).sum,
		query.Min:      (*worker).least,
		query.Max:      (*worker).greatest,
	}
	return ways[n.Kind](w, n)
}

func (w *worker) column(n *query.Node) value.Value {
	return w.rows[n.Place.Source].Values[n.Place.Column]
}

func (w *worker) constant(n *query.Node) value.Value { return n.Value }

func (w *worker) clock(*query.Node) value.Value { return value.OfNumber(w.now) }

func (w *worker) plus(n *query.Node) value.Value {
	left, right, ok := w.numbers(n)
	if !ok {
		return value.Value{}
	}
	return w.bounded(left + right)
}

func (w *worker) minus(n *query.Node) value.Value {
	left, right, ok := w.numbers(n)
	if !ok {
		return value.Value{}
	}
	return w.bounded(left - right)
}

func (w *worker) times(n *query.Node) value.Value {
	left, right, ok := w.numbers(n)
	if !ok {
		return value.Value{}
	}
	// The product of two that are within their bounds may be too great for an int64.
	if right != 0 && size(left) > api.MaxNumber/size(right) {
		w.failed = true
		return value.Value{}
	}
	return value.OfNumber(left * right)
}

func size(number int64) int64 { return max(number, -number) }

// numbers works out both parts of a node; false, if one is null.
func (w *worker) numbers(n *query.Node) (int64, int64, bool) {
	left, right := w.expr(n.Parts[0]), w.expr(n.Parts[1])
	return left.Number, right.Number, left.Kind != value.Null && right.Kind != value.Null
}

// bounded is a number that came out.
func (w *worker) bounded(number int64) value.Value {
	if size(number) > api.MaxNumber {
		w.failed = true
		return value.Value{}
	}
	return value.OfNumber(number)
}

func (w *worker) countAll(*query.Node) value.Value {
	return value.OfNumber(int64(len(w.group)))
}

func (w *worker) countSome(n *query.Node) value.Value {
	return value.OfNumber(int64(len(w.ofGroup(n))))
}

func (w *worker) sum(n *query.Node) value.Value {
	values := w.ofGroup(n)
	if len(values) == 0 {
		return value.Value{}
	}
	// MaxWork numbers are too few for an int64 to overflow on the way.
	total := int64(0)
	for _, v := range values {
		total += v.Number
	}
	return w.bounded(total)
}

func (w *worker) least(n *query.Node) value.Value {
	values := w.ofGroup(n)
	if len(values) == 0 {
		return value.Value{}
	}
	return slices.MinFunc(values, value.Compare)
}

func (w *worker) greatest(n *query.Node) value.Value {
	values := w.ofGroup(n)
	if len(values) == 0 {
		return value.Value{}
	}
	return slices.MaxFunc(values, value.Compare)
}

// ofGroup is what an aggregate is of: the values of its part in the group's combinations, but for nulls.
func (w *worker) ofGroup(n *query.Node) []value.Value {
	var values []value.Value
	for _, c := range w.group {
		// The combination takes the place of the one that stands for the group, and may stay there: see topOf.
		copy(w.rows[len(w.rows)-len(c):], c)
		if v := w.expr(n.Parts[0]); v.Kind != value.Null {
			values = append(values, v)
		}
	}
	return values
}
