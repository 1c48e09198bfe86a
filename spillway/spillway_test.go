package spillway

import (
	"errors"
	"testing"

	"spillway/api"
)

// TestErrnoOf: what gave up with an error is told by it; anything else is no
// panic for whoever asked, and no rows come.
func TestErrnoOf(t *testing.T) {
	for e := api.ErrPlan; e <= api.ErrMany; e++ {
		if got := errnoOf(e); got != e {
			t.Errorf("error %d: %d", e, got)
		}
	}
	for _, why := range []any{"text", 5, errors.New("error"), []int{1}} {
		if got := errnoOf(why); got != api.ErrFail {
			t.Errorf("%v: %d", why, got)
		}
	}
}
