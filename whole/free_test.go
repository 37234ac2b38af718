package whole_test

import (
	"fmt"
	"math"
	"math/rand"
	"runtime"
	"testing"
	"time"

	"quadrille/api"
	"quadrille/grid"
	"quadrille/whole"
)

// P19.3: Free.

func TestWorkers(t *testing.T) {
	g := example(t)
	want := told(mustCalc(t, g))
	for _, workers := range []int{1, 2, 3, 4, 5, 7, 8, 63, 64} {
		l, err := whole.Free(g, workers)
		if err != api.OK {
			t.Errorf("P19.3: Free by %d: error %d", workers, err)
		}
		sameTold(t, fmt.Sprint("P19.3: Free by ", workers), told(l), want)
	}
	for _, workers := range []int{math.MinInt, math.MinInt + 1, -64, -1, 0, 65, 66, 128, 1 << 32, 1<<32 + 1, math.MaxInt} {
		for _, g := range []*grid.Grid{nil, g, grid.New(), gridOf(t, "A1", "=A1")} {
			if l, err := whole.Free(g, workers); err != api.ErrArg || len(l) > 0 {
				t.Errorf("P19.3: Free by %d: %d cells, error %d", workers, len(l), err)
			}
		}
	}
}

// TestManyTimes: the same each time, by one and by many, and no goroutine is left behind.
func TestManyTimes(t *testing.T) {
	r := rand.New(rand.NewSource(193))
	before := runtime.NumGoroutine()
	for i := range 12 {
		m := maker{r, xy(2, 9), 8, 25, true}
		g := m.grid(t, 150)
		want := told(mustCalc(t, g))
		for j := range 60 {
			workers := []int{1, 2, 3, 8, 64}[j%5]
			l, err := whole.Free(g, workers)
			if err != api.OK {
				t.Fatalf("P19.3: Free by %d: error %d", workers, err)
			}
			sameTold(t, fmt.Sprintf("P19.3: sheet %d, Free by %d", i, workers), told(l), want)
		}
		whole.Free(gridOf(t, "A1", "=B1", "B1", "=A1"), 64)
		whole.Free(grid.New(), 64)
		if t.Failed() {
			return
		}
	}
	noneLeft(t, before)
}

// noneLeft waits a little: a goroutine that is done may still be counted for a moment.
func noneLeft(t *testing.T, before int) {
	t.Helper()
	for range 200 {
		if runtime.NumGoroutine() <= before {
			return
		}
		time.Sleep(time.Millisecond)
	}
	t.Errorf("P19.3: %d goroutines are left behind", runtime.NumGoroutine()-before)
}

// TestAllHaveEnded: when it answers, hardly one is counted still; without waiting for them most would be.
func TestAllHaveEnded(t *testing.T) {
	g := example(t)
	before := runtime.NumGoroutine()
	least := 64
	for range 100 {
		whole.Free(g, 64)
		least = min(least, runtime.NumGoroutine()-before)
	}
	if least > 8 {
		t.Errorf("P19.3: %d goroutines have not ended when it answers", least)
	}
}

// heavy is a sheet that takes a while: rows of sums of all rows ahead.
func heavy(t *testing.T) *grid.Grid {
	t.Helper()
	g := grid.New()
	for i := range 1600 {
		c := plain(val(float64(i)))
		if i >= 100 {
			c = fx(fmt.Sprintf("SUM(A1:CV%d)/1E9", i/100))
		}
		put(t, g, xy(1+i%100, 1+i/100), c)
	}
	return g
}

// TestSideBySide: so many goroutines work, no more and no fewer, and none is left when it answers.
func TestSideBySide(t *testing.T) {
	g := heavy(t)
	want := told(mustCalc(t, g))
	for _, workers := range []int{1, 2, 7, 64} {
		before := runtime.NumGoroutine()
		most := 0
		for range 20 {
			ended := make(chan []api.Cell)
			go func() {
				l, _ := whole.Free(g, workers)
				ended <- l
			}()
			var l []api.Cell
			for l == nil {
				select {
				case l = <-ended:
				default:
					most = max(most, runtime.NumGoroutine()-before-1)
					time.Sleep(100 * time.Microsecond)
				}
			}
			sameTold(t, "P19.3: Free", told(l), want)
			noneLeft(t, before)
			if most >= workers {
				break
			}
		}
		if most != workers {
			t.Errorf("P19.3: Free by %d: %d goroutines at most", workers, most)
		}
	}
}

// TestAsSoonAsMayBe: formulas that wait for one that is worked out late, and for several that are worked out in whichever order.
func TestAsSoonAsMayBe(t *testing.T) {
	g := grid.New()
	for row := 1; row <= 300; row++ {
		put(t, g, xy(1, row), fx(fmt.Sprintf("SUM(C1:D%d)", row)))
		put(t, g, xy(3, row), fx(fmt.Sprintf("IF(D%d>3,1,2)", 1+row*7%300)))
		put(t, g, xy(4, row), fx(fmt.Sprintf("MAX(F1:F9,%d)", row%5)))
		put(t, g, xy(2, row), fx(fmt.Sprintf("SUM(A%d:A300,D%d,C%d:C300)", row, row, row)))
	}
	// Two chains behind one another, down and up, and one that uses both and a third one, which is there at once.
	for row := 401; row <= 409; row++ {
		put(t, g, xy(3, row), fx(fmt.Sprintf("C%d+1", row-1)))
		put(t, g, xy(4, row), fx(fmt.Sprintf("IF(C409>D%d,2,D%d)+1", row+1, row+1)))
		put(t, g, xy(5, row), fx(fmt.Sprintf("SUM(C401:C409,D401:D%d,Z500)", row)))
	}
	put(t, g, cell("Z500"), fx("1"))
	put(t, g, cell("F3"), fx("MEDIAN(G1:G9)"))
	put(t, g, cell("G9"), plain(val(1.0)))
	allAlike(t, "many that wait", g, told(modelOf(g).cells()))
}
