package touch

import (
	"slices"
	"testing"

	"tribune/api"
)

func TestUnion(t *testing.T) {
	first := []api.Touch{{Table: "u", Row: 1}, {Table: "t", Row: 10}, {Table: "t", Row: 2}}
	second := []api.Touch{{Table: "tt", Row: 1}, {Table: "t", Row: 2}, {Table: "u", Row: 1}}
	got := Union(first, nil, second)
	want := []api.Touch{{Table: "t", Row: 2}, {Table: "t", Row: 10}, {Table: "tt", Row: 1}, {Table: "u", Row: 1}}
	if !slices.Equal(got, want) {
		t.Errorf("Union: %v", got)
	}
	if first[0].Table != "u" || second[0].Table != "tt" {
		t.Error("Union changes what it is given")
	}
	if len(Union()) != 0 || len(Union(nil, nil)) != 0 {
		t.Error("Union of nothing")
	}
}

func TestUnionIsNewMemory(t *testing.T) {
	one := []api.Touch{{Table: "t", Row: 1}}
	Union(one)[0].Row = 2
	if one[0].Row != 1 {
		t.Error("Union shares memory with what it is given")
	}
}
