package ttl_test

import (
	"math"
	"testing"

	"gazetteer/ttl"
)

// Numbers of the document, written out, so that the tests do not count as the
// package does.
const (
	maxTTL   = 604800
	maxNeg   = 10800
	staleTTL = 30
	maxTime  = 36028797018963968
)

// noTimes are numbers that no time has; some are one if they are cut to fewer
// bits, or if their sign is lost.
var noTimes = []int{
	-1, -2, -5, -30, -maxTTL, -maxTime, -1 << 62, math.MinInt + 1, math.MinInt,
	maxTime + 1, maxTime + 2, 2 * maxTime, 1<<62 + 5, math.MaxInt - 1, math.MaxInt,
}

func clamp(t *testing.T, n int, negative bool, want int) {
	t.Helper()
	if got := ttl.Clamp(n, negative); got != want {
		t.Errorf("Clamp(%d, %v) is %d, not %d", n, negative, got, want)
	}
}

func left(t *testing.T, got, n, now, want int) {
	t.Helper()
	if l := ttl.Left(got, n, now); l != want {
		t.Errorf("Left(%d, %d, %d) is %d, not %d", got, n, now, l, want)
	}
}

func fresh(t *testing.T, got, n, now int, want bool) {
	t.Helper()
	if f := ttl.Fresh(got, n, now); f != want {
		t.Errorf("Fresh(%d, %d, %d) is %v", got, n, now, f)
	}
}

func stale(t *testing.T, got, n, window, now int, want bool) {
	t.Helper()
	if s := ttl.Stale(got, n, window, now); s != want {
		t.Errorf("Stale(%d, %d, %d, %d) is %v", got, n, window, now, s)
	}
}

func tells(t *testing.T, got, n, now, want int) {
	t.Helper()
	if s := ttl.Tell(got, n, now); s != want {
		t.Errorf("Tell(%d, %d, %d) is %d, not %d", got, n, now, s, want)
	}
}

func TestClampWithinItsBounds(t *testing.T) {
	for _, n := range []int{0, 1, 2, staleTTL, 3600, maxNeg - 1, maxNeg} {
		clamp(t, n, false, n)
		clamp(t, n, true, n)
	}
	for _, n := range []int{maxNeg + 1, 86400, maxTTL - 1, maxTTL} {
		clamp(t, n, false, n)
		clamp(t, n, true, maxNeg)
	}
}

func TestClampOfTooManySeconds(t *testing.T) {
	for _, n := range []int{maxTTL + 1, maxTTL + 2, 1<<31 - 1, 1 << 31, 1 << 32, 1<<32 + 5, maxTime, maxTime + 1, 1<<62 + 5, math.MaxInt - 1, math.MaxInt} {
		clamp(t, n, false, maxTTL)
		clamp(t, n, true, maxNeg)
	}
}

func TestClampBelowNought(t *testing.T) {
	for _, n := range []int{-1, -2, -maxNeg, -maxTTL, -1 << 31, -1 << 32, -1<<32 + 5, -maxTime, math.MinInt + 1, math.MinInt} {
		clamp(t, n, false, 0)
		clamp(t, n, true, 0)
	}
}

// The document's example, and the seconds beside it.
func TestSecondsGoBy(t *testing.T) {
	for _, c := range []struct {
		now, left int
		stale     bool
		tell      int
	}{
		{10, 5, false, 5}, {11, 4, false, 4}, {12, 3, false, 3}, {13, 2, false, 2}, {14, 1, false, 1},
		{15, 0, true, staleTTL}, {16, 0, true, staleTTL}, {17, 0, true, staleTTL},
		{18, 0, false, staleTTL}, {19, 0, false, staleTTL}, {1000, 0, false, staleTTL}, {maxTime, 0, false, staleTTL},
	} {
		left(t, 10, 5, c.now, c.left)
		fresh(t, 10, 5, c.now, c.left > 0)
		stale(t, 10, 5, 3, c.now, c.stale)
		tells(t, 10, 5, c.now, c.tell)
	}
}

// A now below got counts as got.
func TestAheadOfGot(t *testing.T) {
	for now := range 10 {
		left(t, 10, 5, now, 5)
		fresh(t, 10, 5, now, true)
		stale(t, 10, 5, 3, now, false)
		tells(t, 10, 5, now, 5)
		left(t, maxTime, maxTTL, now, maxTTL)
		tells(t, maxTime, maxTTL, now, maxTTL)
	}
}

// Of no seconds none are left at any time. For Stale a now below got is taken as
// it is: so it is below the end even where the window is 0.
func TestOfNoSeconds(t *testing.T) {
	for now := range 20 {
		left(t, 10, 0, now, 0)
		fresh(t, 10, 0, now, false)
		tells(t, 10, 0, now, staleTTL)
		stale(t, 10, 0, 0, now, now < 10)
		stale(t, 10, 0, 3, now, now < 13)
	}
	stale(t, 0, 0, 0, 0, false)
	stale(t, 0, 0, 1, 0, true)
	stale(t, maxTime, 0, 0, maxTime-1, true)
	stale(t, maxTime, 0, 0, maxTime, false)
}

func TestWithoutAWindow(t *testing.T) {
	for now := range 30 {
		stale(t, 10, 5, 0, now, false)
	}
}

// More may be told of than Clamp answers, and none is cut here; where few are
// left, they are told as they are, not as stale.
func TestSecondsAreToldAsTheyAre(t *testing.T) {
	for _, n := range []int{1, 2, staleTTL - 1, staleTTL, staleTTL + 1, maxNeg, maxNeg + 1, maxTTL, maxTTL + 1, 1 << 31, 1 << 32, maxTime - 1, maxTime} {
		left(t, 7, n, 7, n)
		tells(t, 7, n, 7, n)
		fresh(t, 7, n, 7, true)
		left(t, 0, n, n-1, 1)
		tells(t, 0, n, n-1, 1)
		fresh(t, 0, n, n-1, true)
		fresh(t, 0, n, n, false)
		tells(t, 0, n, n, staleTTL)
	}
}

// At the end of all times the sums are above it, and none goes over.
func TestAtTheEndOfTimes(t *testing.T) {
	left(t, maxTime, maxTime, maxTime, maxTime)
	left(t, maxTime, maxTime, 0, maxTime)
	left(t, maxTime-1, maxTime, maxTime, maxTime-1)
	left(t, maxTime, 1, maxTime, 1)
	left(t, maxTime-1, 1, maxTime, 0)
	left(t, 0, maxTime, maxTime, 0)
	left(t, 0, maxTime, maxTime-1, 1)
	left(t, 0, 0, maxTime, 0)
	fresh(t, maxTime, 1, maxTime, true)
	fresh(t, maxTime, 0, maxTime, false)
	tells(t, maxTime, maxTime, maxTime, maxTime)
	tells(t, maxTime, 0, maxTime, staleTTL)
	tells(t, 0, maxTime, maxTime, staleTTL)
	stale(t, maxTime, maxTime, maxTime, maxTime, false)
	stale(t, maxTime, 0, maxTime, maxTime, true)
	stale(t, 0, maxTime, maxTime, maxTime, true)
	stale(t, 0, 0, maxTime, maxTime, false)
	stale(t, 0, 0, maxTime, maxTime-1, true)
	stale(t, 1, 0, maxTime, maxTime, true)
	stale(t, 0, 1, maxTime, maxTime, true)
	stale(t, 0, maxTime, 0, maxTime, false)
	stale(t, 0, maxTime, 1, maxTime, true)
}

// Each argument that may not be, beside others that may, of which all would be
// fresh, or stale.
func TestOfNoTime(t *testing.T) {
	for _, x := range noTimes {
		for _, now := range []int{0, 12, 15, 17, 40} {
			nothing(t, x, 5, now)
			nothing(t, 10, x, now)
			stale(t, x, 5, 3, now, false)
			stale(t, 10, x, 3, now, false)
			stale(t, 10, 5, x, now, false)
			stale(t, 10, 0, x, now, false)
		}
		for _, n := range []int{0, 5, maxTime} {
			nothing(t, 10, n, x)
			nothing(t, maxTime, n, x)
			stale(t, 10, n, 3, x, false)
			stale(t, maxTime, n, maxTime, x, false)
		}
	}
}

// nothing holds what is answered of what may not be.
func nothing(t *testing.T, got, n, now int) {
	t.Helper()
	left(t, got, n, now, 0)
	fresh(t, got, n, now, false)
	tells(t, got, n, now, 0)
}

// What is told of freshness does not hang on a window that may not be.
func TestFreshIsNeverStale(t *testing.T) {
	for _, window := range append([]int{0, 1, maxTime}, noTimes...) {
		for now := range 15 {
			fresh(t, 10, 5, now, true)
			stale(t, 10, 5, window, now, false)
		}
	}
}
