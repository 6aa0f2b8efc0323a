// Package truth has the truth values of conds.
package truth

// Value is a truth value. The values stand so that and takes the lesser of two, or the greater.
type Value int

const (
	False Value = iota
	Unknown
	True
)

// Of is True or False.
func Of(isSo bool) Value {
	if isSo {
		return True
	}
	return False
}

// And tells whether both are true.
func And(left, right Value) Value { return min(left, right) }

// Or tells whether one is true.
func Or(left, right Value) Value { return max(left, right) }

// Not is the opposite; unknown stays.
func Not(v Value) Value { return True - v }
