package index

import (
	"fmt"
	"math"
	"slices"
	"testing"

	"pursuivant/api"
)

// step is a time, and the first event that is not ahead of it.
type step struct{ tick, want int }

// firstSteps checks the results of First, in this order and in the opposite one.
func firstSteps(t *testing.T, name string, o *opened, steps []step) {
	t.Helper()
	for range 2 {
		for _, s := range steps {
			if n, e := o.x.First(s.tick); n != s.want || e != api.OK {
				t.Errorf("%s: the first event from %d on is %d, %d, want %d", name, s.tick, n, e, s.want)
			}
			o.first(s.tick)
		}
		slices.Reverse(steps)
	}
	o.around()
}

// ends has the times that are far from all events.
func ends(many int) []step {
	return []step{{math.MinInt, 0}, {math.MinInt + 1, 0}, {-1 << 40, 0}, {-1 << 32, 0}, {-1, 0}, {0, 0}, {1<<40 + 1, many}, {1 << 41, many}, {1 << 62, many}, {math.MaxInt - 1, many}, {math.MaxInt, many}}
}

// TestFirstNone has no events.
func TestFirstNone(t *testing.T) {
	firstSteps(t, "no events", right(t, nil), append(ends(0), step{1, 0}, step{5, 0}, step{1 << 40, 0}))
}

// TestFirstOne has one event.
func TestFirstOne(t *testing.T) {
	firstSteps(t, "at 0", right(t, ticking(0)), append(ends(1), step{1, 1}, step{2, 1}, step{1 << 40, 1}))
	firstSteps(t, "at 1", right(t, ticking(1)), append(ends(1), step{1, 0}, step{2, 1}, step{1 << 40, 1}))
	firstSteps(t, "at 500", right(t, ticking(500)), append(ends(1), step{1, 0}, step{499, 0}, step{500, 0}, step{501, 1}))
	firstSteps(t, "at the last time", right(t, ticking(1<<40)), append(ends(1), step{1<<40 - 1, 0}, step{1 << 40, 0}))
}

// TestFirstApart has events with times between theirs, in three groups.
func TestFirstApart(t *testing.T) {
	var ticks []int
	for i := range 70 {
		ticks = append(ticks, 100+10*i)
	}
	o := right(t, ticking(ticks...))
	steps := append(ends(70), step{1, 0}, step{99, 0}, step{791, 70}, step{1 << 40, 70})
	for i := range 70 {
		steps = append(steps, step{91 + 10*i, i}, step{95 + 10*i, i}, step{99 + 10*i, i}, step{100 + 10*i, i})
	}
	firstSteps(t, "70 events", o, steps)
	// The ends of groups, one by one.
	firstSteps(t, "ends", o, []step{
		{100, 0}, {101, 1}, // the first event of all
		{409, 31}, {410, 31}, {411, 32}, {415, 32}, {419, 32}, {420, 32}, {421, 33},
		{729, 63}, {730, 63}, {731, 64}, {735, 64}, {739, 64}, {740, 64}, {741, 65},
		{789, 69}, {790, 69}, {791, 70}, {792, 70}, // the last one
	})
}

// TestFirstSame has several events at the same time.
func TestFirstSame(t *testing.T) {
	// Within one group.
	firstSteps(t, "within", right(t, ticking(1, 3, 3, 3, 5, 5, 9)), append(ends(7), step{1, 0}, step{2, 1}, step{3, 1}, step{4, 4}, step{5, 4}, step{6, 6}, step{8, 6}, step{9, 6}, step{10, 7}))
	at := func(parts ...[2]int) *opened {
		var ticks []int
		for _, p := range parts {
			ticks = append(ticks, slices.Repeat([]int{p[1]}, p[0])...)
		}
		return right(t, ticking(ticks...))
	}
	// Across the ends of groups, and up to them.
	firstSteps(t, "30 to 34", at([2]int{30, 4}, [2]int{5, 8}, [2]int{5, 9}), []step{{3, 0}, {4, 0}, {5, 30}, {7, 30}, {8, 30}, {9, 35}, {10, 40}})
	firstSteps(t, "31 and 32", at([2]int{31, 4}, [2]int{2, 8}, [2]int{7, 9}), []step{{4, 0}, {5, 31}, {8, 31}, {9, 33}, {10, 40}})
	firstSteps(t, "up to 31", at([2]int{20, 4}, [2]int{12, 8}, [2]int{8, 9}), []step{{4, 0}, {5, 20}, {8, 20}, {9, 32}, {10, 40}})
	firstSteps(t, "from 32 on", at([2]int{32, 4}, [2]int{8, 8}), []step{{4, 0}, {5, 32}, {8, 32}, {9, 40}})
	firstSteps(t, "a whole group", at([2]int{32, 4}, [2]int{32, 8}, [2]int{6, 9}), []step{{4, 0}, {5, 32}, {8, 32}, {9, 64}, {10, 70}})
	firstSteps(t, "more than a group", at([2]int{10, 4}, [2]int{90, 8}, [2]int{20, 9}), []step{{4, 0}, {5, 10}, {8, 10}, {9, 100}, {10, 120}})
	firstSteps(t, "all but the first", at([2]int{1, 4}, [2]int{99, 8}), []step{{4, 0}, {5, 1}, {8, 1}, {9, 100}})
	firstSteps(t, "all but the last", at([2]int{99, 4}, [2]int{1, 8}), []step{{4, 0}, {5, 99}, {8, 99}, {9, 100}})
	for _, tick := range []int{0, 1, 7, 1 << 40} {
		for _, n := range []int{1, 31, 32, 33, 64, 65, 100} {
			o := at([2]int{n, tick})
			firstSteps(t, fmt.Sprint(n, " events at ", tick), o, append(ends(n), step{tick - 1, 0}, step{tick, 0}, step{tick + 1, n}))
		}
	}
}

// TestFirstBoundary has all places of a boundary between two times, in
// transcripts of some groups.
func TestFirstBoundary(t *testing.T) {
	for _, n := range []int{1, 2, 31, 32, 33, 64, 65, 97} {
		for i := range n + 1 {
			ticks := append(slices.Repeat([]int{20}, i), slices.Repeat([]int{30}, n-i)...)
			o := right(t, ticking(ticks...))
			for _, s := range []step{{19, 0}, {20, 0}, {21, i}, {29, i}, {30, i}, {31, n}} {
				if got, e := o.x.First(s.tick); got != s.want || e != api.OK {
					t.Errorf("%d of %d events at 20: the first event from %d on is %d, %d, want %d", i, n, s.tick, got, e, s.want)
				}
				o.first(s.tick)
			}
		}
	}
}

// TestFirstMany has as many events as there may be.
func TestFirstMany(t *testing.T) {
	for _, n := range []int{4065, 4096} {
		var ticks []int
		for i := range n {
			ticks = append(ticks, 3*i)
		}
		o := right(t, ticking(ticks...))
		for i := 0; i < n; i += 7 + i%13 {
			for _, s := range []step{{3*i - 1, i}, {3 * i, i}, {3*i + 1, i + 1}} {
				if got, e := o.x.First(s.tick); got != s.want || e != api.OK {
					t.Errorf("%d events: the first event from %d on is %d, %d, want %d", n, s.tick, got, e, s.want)
				}
			}
		}
		for _, s := range append(ends(n), step{3 * (n - 1), n - 1}, step{3*n - 2, n}, step{3 * n, n}) {
			if got, e := o.x.First(s.tick); got != s.want || e != api.OK {
				t.Errorf("%d events: the first event from %d on is %d, %d, want %d", n, s.tick, got, e, s.want)
			}
		}
	}
}

// TestFirstKinds has events of all kinds.
func TestFirstKinds(t *testing.T) {
	for _, n := range []int{7, 33, 70} {
		o := right(t, mixed(n))
		for i := range n {
			for _, s := range []step{{i*i - i + 1, i}, {i * i, i}, {i*i + 1, i + 1}} {
				if got, e := o.x.First(s.tick); i > 0 && (got != s.want || e != api.OK) {
					t.Errorf("%d events: the first event from %d on is %d, %d, want %d", n, s.tick, got, e, s.want)
				}
			}
		}
		o.around()
	}
}

// TestFirstWrong has bytes that Decode does not accept: all that is said is that
// First ends, and that what stands beside an error is 0.
func TestFirstWrong(t *testing.T) {
	for name, w := range wrongGroups(t, 5) {
		for _, groups := range []int{1, 2, 5} {
			for place := range groups {
				d := drafted(32 * groups)
				for i := range groups {
					if i == place {
						d.group(w.b)
					} else {
						d.group(inPieces(fails(t, 32, i)))
					}
				}
				o := must(t, d.write())
				if o.right {
					t.Fatalf("%s is right", name)
				}
				for tick := -1; tick < 10; tick++ {
					o.first(tick)
				}
			}
		}
	}
	for _, many := range []int{1, 31, 33, 65, 4096} {
		d := drafted(many)
		for range (many + 31) / 32 {
			d.group(nil)
		}
		must(t, d.write()).around()
	}
	// Times of groups that decrease.
	for _, ticks := range [][]int{{9, 5}, {5, 9, 0}, {1 << 40, 0, 1 << 40}, {7, 6, 5, 4, 3, 2, 1, 0}} {
		d := drafted(32 * len(ticks))
		for _, tick := range ticks {
			d.group(inPieces(fails(t, 32, tick)))
		}
		o := must(t, d.write())
		o.around()
		for tick := range 12 {
			o.first(tick)
		}
	}
}
