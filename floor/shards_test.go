package floor

import (
	"slices"
	"testing"

	"verge/api"
)

// How shards are gone through: of what stands behind Shard and Home.

// told are the numbers of the shards that a floor tells, up to a last one.
func told(t *testing.T, f *Floor, last int) []int {
	t.Helper()
	var l []int
	for i, s := range f.eachShard {
		if s == nil || s != f.shards[i] {
			t.Errorf("shard %d: %p", i, s)
		}
		l = append(l, i)
		if i == last {
			break
		}
	}
	return l
}

func TestEachShardInOrder(t *testing.T) {
	all := []int{0, 1, 2, 3}
	for n := 1; n <= api.MaxShards; n++ {
		f, _ := New(api.Config{Shards: n, Cap: 1, Ring: 1, Room: 1, Workers: 1, Clients: 1})
		if got := told(t, f, n); !slices.Equal(got, all[:n]) {
			t.Errorf("of %d: %v", n, got)
		}
		for last := range n {
			if got := told(t, f, last); !slices.Equal(got, all[:last+1]) {
				t.Errorf("of %d, up to %d: %v", n, last, got)
			}
		}
	}
	if got := told(t, nil, 0); len(got) > 0 {
		t.Errorf("of a nil floor: %v", got)
	}
}
