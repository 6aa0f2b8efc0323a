package truth

import "testing"

func TestTables(t *testing.T) {
	for _, c := range []struct{ left, right, and, or Value }{
		{False, False, False, False}, {False, Unknown, False, Unknown}, {False, True, False, True},
		{Unknown, False, False, Unknown}, {Unknown, Unknown, Unknown, Unknown}, {Unknown, True, Unknown, True},
		{True, False, False, True}, {True, Unknown, Unknown, True}, {True, True, True, True},
	} {
		if got := And(c.left, c.right); got != c.and {
			t.Errorf("And(%d, %d) = %d", c.left, c.right, got)
		}
		if got := Or(c.left, c.right); got != c.or {
			t.Errorf("Or(%d, %d) = %d", c.left, c.right, got)
		}
	}
	if Not(False) != True || Not(Unknown) != Unknown || Not(True) != False {
		t.Error("Not")
	}
	if Of(true) != True || Of(false) != False {
		t.Error("Of")
	}
}
