package ttl_test

import (
	"math"
	"math/big"
	"math/rand"
	"testing"
)

// sum adds without an end.
func sum(list ...int) *big.Int {
	s := new(big.Int)
	for _, n := range list {
		s.Add(s, big.NewInt(int64(n)))
	}
	return s
}

func areTimes(list ...int) bool {
	for _, n := range list {
		if sum(n).Sign() < 0 || sum(n).Cmp(sum(maxTime)) > 0 {
			return false
		}
	}
	return true
}

// modelLeft is as the document tells it, of arguments that may be.
func modelLeft(got, n, now int) int {
	if now < got {
		now = got
	}
	s := sum(got, n)
	s.Sub(s, sum(now))
	if s.Sign() < 0 {
		return 0
	}
	if s.Cmp(sum(n)) > 0 {
		return n
	}
	return int(s.Int64())
}

// asTheModel holds all calls of these arguments against the document's words.
func asTheModel(t *testing.T, got, n, window, now int) {
	t.Helper()
	wantLeft, wantTell := 0, 0
	if areTimes(got, n, now) {
		wantLeft = modelLeft(got, n, now)
		wantTell = wantLeft
		if wantLeft == 0 {
			wantTell = staleTTL
		}
	}
	left(t, got, n, now, wantLeft)
	fresh(t, got, n, now, wantLeft > 0)
	tells(t, got, n, now, wantTell)
	isStale := areTimes(got, n, window, now) && wantLeft == 0 && sum(now).Cmp(sum(got, n, window)) < 0
	stale(t, got, n, window, now, isStale)
}

func TestSmallNumbersAsTheModel(t *testing.T) {
	for got := -2; got < 8; got++ {
		for n := -2; n < 8; n++ {
			for window := -2; window < 8; window++ {
				for now := -2; now < 24; now++ {
					asTheModel(t, got, n, window, now)
				}
			}
		}
	}
}

// ends are numbers at, and beside, the bounds of what may be, and of an int.
var ends = []int{
	math.MinInt, math.MinInt + 1, -maxTime, -1, 0, 1, staleTTL, maxTTL, maxTTL + 1,
	maxTime / 2, maxTime - 1, maxTime, maxTime + 1, 2 * maxTime, 1 << 62, math.MaxInt - 1, math.MaxInt,
}

func TestEndsAsTheModel(t *testing.T) {
	for _, got := range ends {
		for _, n := range ends {
			for _, window := range ends {
				for _, now := range ends {
					asTheModel(t, got, n, window, now)
				}
			}
		}
	}
}

// drawn is any number, mostly one that may be a time; many are near a bound of
// what the others tell.
func drawn(draw *rand.Rand, near ...int) int {
	switch draw.Intn(6) {
	case 0:
		return draw.Intn(100)
	case 1:
		return draw.Intn(maxTime + 1)
	case 2:
		return ends[draw.Intn(len(ends))]
	case 3:
		return int(draw.Uint64())
	}
	n := draw.Intn(5) - 2
	for _, x := range near {
		n += x
	}
	return n
}

func TestDrawnAsTheModel(t *testing.T) {
	draw := rand.New(rand.NewSource(12))
	for range 100000 {
		got, n, window := drawn(draw), drawn(draw), drawn(draw)
		asTheModel(t, got, n, window, drawn(draw))
		asTheModel(t, got, n, window, drawn(draw, got))
		asTheModel(t, got, n, window, drawn(draw, got, n))
		asTheModel(t, got, n, window, drawn(draw, got, n, window))
	}
}

// Calls hang on nothing that was called ahead of them.
func TestTheSameCallsHaveTheSameAnswers(t *testing.T) {
	for range 3 {
		clamp(t, 7, false, 7)
		left(t, 10, 5, 12, 3)
		fresh(t, 10, 5, 15, false)
		stale(t, 10, 5, 3, 17, true)
		tells(t, 10, 5, 15, staleTTL)
		clamp(t, -1, true, 0)
		left(t, -1, math.MaxInt, math.MinInt, 0)
		stale(t, math.MaxInt, math.MaxInt, math.MaxInt, -1, false)
	}
}
