package engine

import (
	"testing"

	"geofence/api"
)

// TestOperations checks that each operation with a single query, and no other one, is listed under its own number.
func TestOperations(t *testing.T) {
	want := map[int]string{api.OpOrient: "orient", api.OpCircle: "circle", api.OpConvex: "convex", api.OpFence: "fence"}
	got := operations()
	if len(got) != len(want) {
		t.Errorf("there are %d operations, want %d", len(got), len(want))
	}
	for number, name := range want {
		if o := got[number]; o.name != name || o.value == nil {
			t.Errorf("operation %d has the name %q, want %q, and a function: %t", number, o.name, name, o.value != nil)
		}
	}
}
