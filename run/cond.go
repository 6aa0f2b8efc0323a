package run

import (
	"tribune/query"
	"tribune/truth"
	"tribune/value"
)

// cond works out a cond.
func (w *worker) cond(n *query.Node) truth.Value {
	ways := [...]func(*worker, *query.Node) truth.Value{
		query.And:     (*worker).and,
		query.Or:      (*worker).or,
		query.Not:     (*worker).not,
		query.Exists:  (*worker).exists,
		query.Equal:   (*worker).equal,
		query.Less:    (*worker).less,
		query.Greater: (*worker).greater,
		query.IsNull:  (*worker).isNull,
	}
	return ways[n.Kind](w, n)
}

func (w *worker) and(n *query.Node) truth.Value {
	return truth.And(w.cond(n.Parts[0]), w.cond(n.Parts[1]))
}

func (w *worker) or(n *query.Node) truth.Value {
	return truth.Or(w.cond(n.Parts[0]), w.cond(n.Parts[1]))
}

func (w *worker) not(n *query.Node) truth.Value { return truth.Not(w.cond(n.Parts[0])) }

func (w *worker) exists(n *query.Node) truth.Value {
	return truth.Of(len(w.answer(n.Query)) > 0)
}

func (w *worker) equal(n *query.Node) truth.Value {
	order, ok := w.order(n)
	return known(ok, order == 0)
}

func (w *worker) less(n *query.Node) truth.Value {
	order, ok := w.order(n)
	return known(ok, order < 0)
}

func (w *worker) greater(n *query.Node) truth.Value {
	order, ok := w.order(n)
	return known(ok, order > 0)
}

func known(ok, isSo bool) truth.Value {
	if !ok {
		return truth.Unknown
	}
	return truth.Of(isSo)
}

// order holds both parts of a node against each other; false, if one is null.
func (w *worker) order(n *query.Node) (int, bool) {
	left, right := w.expr(n.Parts[0]), w.expr(n.Parts[1])
	return value.Compare(left, right), left.Kind != value.Null && right.Kind != value.Null
}

func (w *worker) isNull(n *query.Node) truth.Value {
	return truth.Of(w.expr(n.Parts[0]).Kind == value.Null)
}
