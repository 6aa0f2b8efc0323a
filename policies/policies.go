// Package policies keeps policies, and tells what they see and whether they find something.
package policies

import (
	"slices"

	"tribune/api"
	"tribune/journal"
	"tribune/query"
	"tribune/run"
	"tribune/table"
)

// List is policies, the first ones first.
type List struct {
	policies []policy
	last     int // the number given last: the policy that had it may be gone
}

type policy struct {
	number int
	since  int // the last entry that was written ahead of it, or 0
	rule   query.Statement
}

// IsFull tells whether there is no room for one more.
func (l *List) IsFull() bool { return len(l.policies) >= api.MaxPolicies }

// Add adds a policy that is checked, with the number of the last entry, and answers the policy's number.
func (l *List) Add(rule query.Statement, since int) int {
	l.last++
	l.policies = append(l.policies, policy{number: l.last, since: since, rule: rule})
	return l.last
}

// Drop takes a policy out; false, if there is no such policy.
func (l *List) Drop(number int) bool {
	i := slices.IndexFunc(l.policies, func(p policy) bool { return p.number == number })
	if i < 0 {
		return false
	}
	l.policies = slices.Delete(l.policies, i, i+1)
	return true
}

// Finder is the number of the first policy that finds something at a time, or 0.
func (l *List) Finder(log journal.Journal, tables []*table.Table, now int64) int {
	for _, p := range l.policies {
		if p.finds(log, tables, now) {
			return p.number
		}
	}
	return 0
}

// Unseen is the number of the last entry that no policy sees at a time, or 0: of those that are kept,
// at least one policy sees each that comes behind it. What is out of sight once stays so: neither do
// times go back, nor does a policy see what was written ahead of it.
func (l *List) Unseen(log journal.Journal, now int64) int {
	unseen := log.Count()
	for _, p := range l.policies {
		unseen = min(unseen, p.unseen(log, now))
	}
	return unseen
}

// unseen is the number of the last entry that the policy does not see, or 0: it sees all behind it.
func (p policy) unseen(log journal.Journal, now int64) int {
	if p.rule.Form == query.Ever {
		return p.since
	}
	return max(p.since, log.LastUntil(now-p.rule.Span))
}

func (p policy) finds(log journal.Journal, tables []*table.Table, now int64) bool {
	seen := log.Behind(p.unseen(log, now))
	return run.Finds(p.rule.Query, slices.Concat(seen.Tables(), tables), now)
}
